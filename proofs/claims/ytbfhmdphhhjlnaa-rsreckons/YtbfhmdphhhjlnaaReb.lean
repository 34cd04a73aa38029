/-
  What rs.Code.Rebuild does.
-/
import Derived.Test.YtbfhmdphhhjlnaaFac
import Derived.Test.YtbfhmdphhhjlnaaPar2
namespace Go.Proofs.Ytbfhmdphhhjlnaa
open Go.RowKit Gf
attribute [local go_sem ↓] Go.wp_at_zero Go.wp_at_succ

/-- Where r of the missing rows have been made. -/
def RebI (w : World) (h N l nt nm k hf : Nat) (la ma : Option Addr) (AL AF : Nat → Option Addr) (CL CF : Nat → Nat) (HL FF : Nat → Nat → Nat) (P : Nat → Bool) (F X : Nat → Nat → Nat) (r : Nat) (wr : World) : Prop :=
  ∃ A' L' C' G', Hold wr h N A' L' C' G' ∧ (∀ i, i < N → P i = true → L' i = l ∧ ∀ j, G' i j = F i j) ∧ (∀ i, i < N → P i = false → (th (fun i => !P i) i).length < r → L' i = l ∧ ∀ j, j < l → G' i j = X i j) ∧
    Mat wr la nt AL (fun _ => l) CL HL ∧ Mat wr (some ⟨hf, 0, none⟩) nm AF (fun _ => k) CF FF ∧ IRow wr ma nm (fun i => ((ti (fun i => !P i) N i : Nat) : Int)) ∧ Below w.heap.size w wr

theorem RebI.step {w : World} {h N l nt nm k hf : Nat} {la ma : Option Addr} {AL AF : Nat → Option Addr} {CL CF : Nat → Nat} {HL FF : Nat → Nat → Nat} {P : Nat → Bool} {F X : Nat → Nat → Nat} {r : Nat} {wr w1 : World} {g c : Nat} {f : Nat → Nat}
    (I : RebI w h N l nt nm k hf la ma AL AF CL CF HL FF P F X r wr) (hr : r < (th (fun i => !P i) N).length) (hb : Below wr.heap.size wr w1) (row : Row w1 (some ⟨g, 0, none⟩) l f) (hf' : ∀ j, j < l → f j = X (ti (fun i => !P i) N r) j) (hl : l ≤ 9223372036854775807)
    (hw : w.heap.size ≤ h) (hla : ∀ ad, la = some ad → ad.block ≠ h) (hhf : hf ≠ h) :
    (∃ x y z, w1.cell? ⟨h, ti (fun i => !P i) N r, none⟩ = some (.slice x y z)) ∧ w1.frozen? ⟨h, ti (fun i => !P i) N r, none⟩ = false ∧ RebI w h N l nt nm k hf la ma AL AF CL CF HL FF P F X (r + 1) (w1.setCell ⟨h, ti (fun i => !P i) N r, none⟩ (.slice (some ⟨g, 0, none⟩) l c)) := by
  obtain ⟨A', L', C', G', hold, h1, h2, mL, mF, iM, hbw⟩ := I
  obtain ⟨hq, hp⟩ := ti_mem hr
  have hix := ti_idx hr
  have hp' : P (ti (fun i => !P i) N r) = false := by simpa using hp
  have hold1 := hold.keep hb
  have ck := hold1.mat.cellAt hq
  refine ⟨⟨_, _, _, ck⟩, hold1.soft _ hq, upd A' _ _, upd L' _ _, upd C' _ _, upd G' _ _, hold1.set (c := c) hq row (fun e => by cases e) hl, fun i hi hP => ?_, fun i hi hP hlt => ?_, (mL.keep hb).far ck hla _, (mF.keep hb).far ck (fun ad e => by injection e with e; subst e; exact hhf) _, (iM.keep hb).far ck _, (hbw.trans (hb.mono hbw.size)).setCell hw _⟩
  · have e : i ≠ ti (fun i => !P i) N r := fun e => by rw [e, hp'] at hP; cases hP
    rw [upd_ne _ _ e, upd_ne _ _ e]; exact h1 i hi hP
  · by_cases e : i = ti (fun i => !P i) N r
    · subst e; rw [upd_at, upd_at]; exact ⟨rfl, hf'⟩
    · rw [upd_ne _ _ e, upd_ne _ _ e]
      refine h2 i hi hP ?_
      by_cases q : (th (fun i => !P i) i).length = r
      · exfalso
        have := ti_at (p := fun i => !P i) hi (by simp [hP])
        rw [q] at this
        exact e this.symm
      · omega

set_option maxRecDepth 100000 in
theorem rebuild_len (p k N : Nat) (S : Nat → Nat → Nat) (w : World) (a : Option Addr) (n c : Nat) (hcode : Code w p k N S) (hno : n ≠ N) :
    Calls Try.prog 12 #[.pointer (some ⟨p, 0, none⟩), .slice a n c] w fun e w' => e = .returned (.tuple #[.slice none 0 0, .int .i64 1]) ∧ w = w' := by
  have cMd := made_any p k N S w hcode
  have cN := N_any p k N S w hcode
  have hN := hcode.N2
  have hk' : ((n : Nat) : Int) ≠ (N : Int) := by omega
  clear hno hcode
  go_enter Try.func12, Try.ntmps12
  go_wp2_with fail
  go_at_call 26
  refine cMd.mono ?_
  rintro e w' ⟨rfl, rfl⟩
  go_wp2_with fail
  go_at_call 22
  refine cN.mono ?_
  rintro e w' ⟨rfl, rfl⟩
  go_wp2
  go_ret2
  exact ⟨rfl, rfl⟩

theorem OwnI.form2 {w : World} {base k : Nat} {v : Value} {g : Nat → Int} (h : OwnI w base v k g) : ∃ a c, v = .slice a k c ∧ IRow w a k g ∧ k ≤ c := by
  obtain ⟨a, c, e, hi⟩ := h.form
  refine ⟨a, c, e, hi, ?_⟩
  unfold OwnI at h
  rcases h.2 with ⟨q, rfl⟩ | ⟨b, cap, cur, q, _, _, hc, _⟩
  · omega
  · rw [e] at q; injection q with _ _ q; omega

/-- How Rebuild ends, of N rows. -/
def RebEnd (w' : World) (k N : Nat) (S : Nat → Nat → Nat) (L : Nat → Nat) (F : Nat → Nat → Nat) (e : Ending) : Prop :=
  let P := isT L N
  let t := ti P N
  (e = .returned (.tuple #[.slice none 0 0, .int .i64 1]) ∧ ¬ (∀ i, i < (th P N).length → L (t i) = L (t 0))) ∨
  (e = .returned (.tuple #[.slice none 0 0, .int .i64 2]) ∧ (∀ i, i < (th P N).length → L (t i) = L (t 0)) ∧ (th P N).length < k) ∨
  ((∀ i, i < (th P N).length → L (t i) = L (t 0)) ∧ k ≤ (th P N).length ∧ ∃ h A' C' G, e = .returned (.tuple #[.slice (some ⟨h, 0, none⟩) N N, .int .i64 0]) ∧ Mat w' (some ⟨h, 0, none⟩) N A' (fun _ => L (t 0)) C' G ∧ (∀ i, i < N → P i = true → ∀ j, G i j = F i j) ∧
    ((∀ i, i < N → P i = true) ∨ ∃ Y, IsInv k (fun i => S (t i)) Y ∧ B Y ∧ ∀ i, i < N → P i = false → ∀ j, j < L (t 0) → G i j = mm k (mm k S Y) (fun x => F (t x)) i j))

set_option maxRecDepth 100000 in
set_option maxHeartbeats 4000000 in
theorem rebuild_any (p k N : Nat) (S : Nat → Nat → Nat) (w : World) (a : Option Addr) (c : Nat) (A : Nat → Option Addr) (L C : Nat → Nat) (F : Nat → Nat → Nat) (hcode : Code w p k N S) (h : Mat w a N A L C F) (hL : ∀ i, i < N → L i ≤ 140737488355328) :
    Calls Try.prog 12 #[.pointer (some ⟨p, 0, none⟩), .slice a N c] w fun e w' => RebEnd w' k N S L F e ∧ Below w.heap.size w w' := by
  have cMd := made_any p k N S w hcode
  have cN := N_any p k N S w hcode
  have k1 := hcode.k1
  have kN := hcode.kN
  have N2 := hcode.N2
  have HC : Hid (Code w p k N S) := hcode
  have cW := withNils_any a N c A L C F w h (by omega) hL
  have HL : Hid (∀ i, i < N → L i ≤ 140737488355328) := hL
  have HLe : Hid (∀ i, L i ≤ 9223372036854775807) := h.le
  have HF : Hid (B F) := h.lt
  clear h hcode hL
  unfold RebEnd
  dsimp only
  obtain ⟨P, hP⟩ : ∃ P, P = isT L N := ⟨_, rfl⟩
  rw [← hP] at cW ⊢
  clear hP
  go_enter Try.func12, Try.ntmps12
  go_wp2_with fail
  go_at_call 26
  refine cMd.mono ?_
  rintro e w' ⟨rfl, rfl⟩
  go_wp2_with fail
  go_at_call 22
  refine cN.mono ?_
  rintro e w' ⟨rfl, rfl⟩
  clear cMd cN
  go_wp2_with fail
  go_at_call 30
  refine cW.mono ?_
  rintro e w1 ⟨h, A1, C1, rfl, hold, hnil, hh, b1⟩
  clear cW
  have HH : Hid (Hold w1 h N A1 L C1 F) := hold
  have cP := parted_any (some ⟨h, 0, none⟩) N N A1 L C1 F P w1 hold.mat (by omega) hnil
  clear hold hnil
  go_wp2_with fail
  go_at_call 31
  refine cP.mono ?_
  rintro e w2 ⟨v1, v2, rfl, o1, o2, b2⟩
  clear cP
  obtain ⟨ta, tc, rfl, i1, htc⟩ := o1.form2
  obtain ⟨ma, mc, rfl, i2⟩ := o2.form
  have b02 : Below w.heap.size w w2 := b1.trans (b2.mono b1.size)
  have hlt1 : h < w1.heap.size := block_lt_of_cell (HH.out.mat.cellAt (i := 0) (by omega))
  have HH2 : Hid (Hold w2 h N A1 L C1 F) := HH.out.keep b2
  have HI1 : Hid (IRow w2 ta (th P N).length (fun i => ((ti P N i : Nat) : Int))) := i1
  have HI2 : Hid (IRow w2 ma (th (fun i => !P i) N).length (fun i => ((ti (fun i => !P i) N i : Nat) : Int))) := i2
  have l1 := th_len_le P N
  have l2 := th_len_le (fun i => !P i) N
  have cT := taken_any (some ⟨h, 0, none⟩) ta N N (th P N).length tc A1 L C1 F (ti P N) w2 HH2.out.mat i1 (by omega) (by omega) (fun i hi => (ti_mem hi).1)
  clear HH o1 o2 i1 i2
  obtain ⟨nt, hnt⟩ : ∃ x, (th P N).length = x := ⟨_, rfl⟩
  have HNT : Hid ((th P N).length = nt) := hnt
  obtain ⟨nm, hnm⟩ : ∃ x, (th (fun i => !P i) N).length = x := ⟨_, rfl⟩
  have HNM : Hid ((th (fun i => !P i) N).length = nm) := hnm
  rw [hnt] at cT HI1 l1 htc ⊢
  rw [hnm] at HI2 l2 ⊢
  clear hnt hnm
  go_wp2_with fail
  go_at_call 32
  refine cT.mono ?_
  rintro e w3 ⟨v3, rfl, r3, b3⟩
  clear cT
  obtain ⟨la, lc, AL, CL, rfl, mL, hbl⟩ := r3.form (fun i => HLe.out _) (fun i j => HF.out _ _)
  have b03 : Below w.heap.size w w3 := b02.trans (b3.mono b02.size)
  have hs2 := b2.size
  have hs3 := b3.size
  have HML : Hid (Mat w3 la nt AL (fun i => L (ti P N i)) CL (fun i => F (ti P N i))) := mL
  have HBL : Hid (∀ ad, la = some ad → ad.block ≠ h) := fun ad e => by have := (hbl ad e).1; omega
  clear r3 hbl
  by_cases hal : ∀ i, i < nt → L (ti P N i) = L (ti P N 0)
  · have cA := alike_yes la nt lc AL (fun i => L (ti P N i)) CL _ w3 mL (by omega) hal
    have HAL : Hid (∀ i, i < nt → L (ti P N i) = L (ti P N 0)) := hal
    clear mL hal
    go_wp2_with fail
    go_at_call 27
    refine cA.mono ?_
    rintro e w' ⟨rfl, rfl⟩
    clear cA
    obtain ⟨hh', bt, AS, CS, c0, c1, c2, _, _⟩ := (HC.out.keep b03).ex
    by_cases hsh : nt < k
    · have hsh' : (nt : Int) < (k : Int) := by omega
      go_wp2
      go_ret2
      exact ⟨.inr (.inl ⟨rfl, by rw [HNT.out]; exact HAL.out, by rw [HNT.out]; exact hsh⟩), b03⟩
    · have hsh' : ¬ (nt : Int) < (k : Int) := by omega
      have hkn : (k : Int) ≤ (tc : Int) := by omega
      have HLT : Hid (∀ i, i < N → P i = true → L i = L (ti P N 0)) := fun i hi hp => by
        have q1 := ti_has hi hp
        have q2 := HAL.out (th P i).length (by rw [← HNT.out]; exact q1)
        rw [ti_at hi hp] at q2
        exact q2
      obtain ⟨l, hl⟩ : ∃ l, L (ti P N 0) = l := ⟨_, rfl⟩
      have hn0 : 0 < nt := by omega
      have hlb : l ≤ 140737488355328 := by rw [← hl]; exact HL.out _ (ti_mem (by rw [HNT.out]; exact hn0)).1
      rw [hl] at HLT
      have HAL' : Hid (∀ i, i < nt → L (ti P N i) = l) := fun i hi => by rw [HAL.out i hi, hl]
      have HLl : Hid (L (ti P N 0) = l) := hl
      clear hl
      by_cases hm0 : nm = 0
      · have cF := factorsOf_none p w3 ma ta mc k tc
        subst hm0
        have HPT : Hid (∀ i, i < N → P i = true) := fun i hi => by
          cases q : P i with
          | true => rfl
          | false =>
            have := ti_has (p := fun i => !P i) hi (by simp [q])
            rw [HNM.out] at this
            omega
        have HE : Hid (Mat w3 (some ⟨h, 0, none⟩) N A1 (fun _ => l) C1 F) := (HH2.out.mat.keep b3).congr (fun i hi => HLT.out i hi (HPT.out i hi)) (fun _ => by omega) (fun _ _ _ _ => rfl) HF.out
        clear c1 c2
        go_wp2_with fail
        go_at_call 33
        refine cF.mono ?_
        rintro e w' ⟨rfl, rfl⟩
        clear cF
        go_wp2
        go_loop [54] (fun v => v = .int .i64 0) (fun _ => 0)
        case atStart => rfl
        case round =>
          obtain rfl := hrel
          go_wp2
          go_ret2
          exact ⟨.inr (.inr ⟨by rw [HNT.out]; exact HAL.out, by rw [HNT.out]; omega, h, rfl, A1, C1, F, by rw [HLl.out]; exact HE.out, fun _ _ _ _ => rfl, .inl HPT.out⟩), b03⟩
      · have cF := factorsOf_yes p k N S w3 ma ta nm mc tc (ti (fun i => !P i) N) (ti P N) (HC.out.keep b03) (HI2.out.keep b3) ((HI1.out.keep b3).take (by omega)) (by omega) (by omega) (fun i hi => (ti_mem (by rw [HNM.out]; exact hi)).1) (fun i hi => (ti_mem (by rw [HNT.out]; omega)).1)
          (fun i hi j hj e => ti_inj (by rw [HNT.out]; omega) (by rw [HNT.out]; omega) e)
        clear c1 c2
        go_wp2_with fail
        go_at_call 33
        refine cF.mono ?_
        rintro e w4 ⟨hf, Y, AF, CF, rfl, hhf, hinv, lY, mF, b4⟩
        clear cF
        have IV : Hid (IsInv k (fun i => S (ti P N i)) Y) := hinv
        have LY : Hid (B Y) := lY
        have b04 : Below w.heap.size w w4 := b03.trans (b4.mono b03.size)
        have hne : hf ≠ h := by omega
        have H0 : Hid (RebI w h N l nt nm k hf la ma AL AF CL CF (fun i => F (ti P N i)) (mm k (fun i => S (ti (fun i => !P i) N i)) Y) P F (mm k (mm k S Y) (fun x => F (ti P N x))) 0 w4) :=
          ⟨A1, L, C1, F, (HH2.out.keep b3).keep b4, fun i hi hp => ⟨HLT.out i hi hp, fun _ => rfl⟩, fun i _ _ q => absurd q (by omega), (HML.out.keep b4).congr (fun i hi => HAL'.out i hi) (fun _ => by omega) (fun _ _ _ _ => rfl) (fun i j => HF.out _ _), mF, (HI2.out.keep b3).keep b4, b04⟩
        have hhw : w.heap.size ≤ h := hh
        clear hinv lY mF HML HI1 HI2 HH2 b04 b4 c0 b1 b2 b3 b03 b02
        go_wp2
        go_loopw [54] (fun v wr => ∃ r : Nat, r ≤ nm ∧ v = .int .i64 r ∧ RebI w h N l nt nm k hf la ma AL AF CL CF (fun i => F (ti P N i)) (mm k (fun i => S (ti (fun i => !P i) N i)) Y) P F (mm k (mm k S Y) (fun x => F (ti P N x))) r wr) (fun v _ => nm - (intOf v).toNat)
        case atStart => exact ⟨0, by omega, rfl, H0.out⟩
        case round =>
          obtain ⟨r, hr, rfl, I⟩ := hrel
          clear H0
          have HI : Hid (RebI w h N l nt nm k hf la ma AL AF CL CF (fun i => F (ti P N i)) (mm k (fun i => S (ti (fun i => !P i) N i)) Y) P F (mm k (mm k S Y) (fun x => F (ti P N x))) r wr) := I
          clear I
          by_cases hlt : r < nm
          · obtain ⟨A', L', C', G', hold, _, _, mL, mF, iM, hbw⟩ := HI.out
            have hq := (ti_mem (p := fun i => !P i) (n := N) (i := r) (by rw [HNM.out]; exact hlt)).1
            have ir : (r : Int) < (nm : Int) := by omega
            have iq : ((ti (fun i => !P i) N r : Nat) : Int) < (N : Int) := by omega
            have cf := mF.cellAt hlt
            obtain ⟨b2, o2, rfl, hc2⟩ := iM (by omega)
            have cm : wr.cell? ⟨b2, o2 + r, none⟩ = some (.int .i64 ((ti (fun i => !P i) N r : Nat) : Int)) := hc2 r hlt
            have K : Hid (Calls Try.prog 29 #[.pointer (some ⟨p, 0, none⟩), .slice (AF r) k (CF r), .slice la nt lc] wr fun e w' => ∃ g c' x y z, e = .returned (.slice (some ⟨g, 0, none⟩) l c') ∧ w'.cell? ⟨h, ti (fun i => !P i) N r, none⟩ = some (.slice x y z) ∧ w'.frozen? ⟨h, ti (fun i => !P i) N r, none⟩ = false ∧
                RebI w h N l nt nm k hf la (some ⟨b2, o2, none⟩) AL AF CL CF (fun i => F (ti P N i)) (mm k (fun i => S (ti (fun i => !P i) N i)) Y) P F (mm k (mm k S Y) (fun x => F (ti P N x))) (r + 1) (w'.setCell ⟨h, ti (fun i => !P i) N r, none⟩ (.slice (some ⟨g, 0, none⟩) l c'))) := by
              refine (combine_any p k N S wr (AF r) la (CF r) nt lc l _ AL CL _ (HC.out.keep hbw) (mF.row r hlt) mL (by omega) (by omega) hlb).mono ?_
              rintro e w1 ⟨g, c', rfl, hrow, _, hb1⟩
              obtain ⟨⟨x, y, z, h1⟩, h2, h3⟩ := HI.out.step (c := c') (by rw [HNM.out]; exact hlt) hb1 hrow (fun j _ => rfl) (by omega) hhw HBL.out hne
              exact ⟨g, c', x, y, z, rfl, h1, h2, h3⟩
            clear hold mL mF iM hbw hc2 HI
            generalize AF r = af at *
            generalize CF r = xf at *
            obtain ⟨qr, hqr⟩ : ∃ x, ti (fun i => !P i) N r = x := ⟨_, rfl⟩
            rw [hqr] at K hq iq cm
            clear hqr
            go_wp2_with fail
            go_at_call 29
            refine K.out.mono ?_
            rintro e w1 ⟨g, c', x, y, z, rfl, y1, y2, y3⟩
            go_wp2
            go_round
            case rel => exact ⟨r + 1, by omega, by go_num, y3⟩
            case measure => simp [intOf]; omega
          · have : r = nm := by omega
            subst this
            obtain ⟨A', L', C', G', hold, h1, h2, _, _, _, hbw⟩ := HI.out
            have HE : Hid (Mat wr (some ⟨h, 0, none⟩) N A' (fun _ => l) C' G') := hold.mat.congr (fun i hi => by
              cases q : P i with
              | true => exact (h1 i hi q).1
              | false => exact (h2 i hi q (by rw [← HNM.out]; exact ti_has hi (by simp [q]))).1) (fun _ => by omega) (fun _ _ _ _ => rfl) hold.mat.lt
            have HG1 : Hid (∀ i, i < N → P i = true → ∀ j, G' i j = F i j) := fun i hi hp => (h1 i hi hp).2
            have HG2 : Hid (∀ i, i < N → P i = false → ∀ j, j < l → G' i j = mm k (mm k S Y) (fun x => F (ti P N x)) i j) := fun i hi hp => (h2 i hi hp (by rw [← HNM.out]; exact ti_has hi (by simp [hp]))).2
            clear hold h1 h2 HI
            go_wp2
            go_ret2
            exact ⟨.inr (.inr ⟨by rw [HNT.out]; exact HAL.out, by rw [HNT.out]; omega, h, A', C', G', rfl, by rw [HLl.out]; exact HE.out, HG1.out, .inr ⟨Y, IV.out, LY.out, by rw [HLl.out]; exact HG2.out⟩⟩), hbw⟩
  · have cA := alike_no la nt lc AL (fun i => L (ti P N i)) CL _ w3 mL (by omega) hal
    have HAL : Hid (¬ ∀ i, i < nt → L (ti P N i) = L (ti P N 0)) := hal
    clear mL hal
    go_wp2_with fail
    go_at_call 27
    refine cA.mono ?_
    rintro e w' ⟨rfl, rfl⟩
    clear cA
    go_wp2
    go_ret2
    exact ⟨.inl ⟨rfl, by rw [HNT.out]; exact HAL.out⟩, b03⟩

/-- Of rows of which those that are there are of one length, and enough, as Encode made them. -/
theorem reb_good {w' : World} {k N l : Nat} {S F D : Nat → Nat → Nat} {L : Nat → Nat} {e : Ending} (h : RebEnd w' k N S L F e) (hS : IsSys k S) (hD : B D) (k1 : 1 ≤ k) (hlb : l ≤ 9223372036854775807) (hl : ∀ i, i < N → isT L N i = true → L i = l) (hF : ∀ i, i < N → isT L N i = true → ∀ j, j < l → F i j = mm k S D i j) (hk : k ≤ (th (isT L N) N).length) :
    ∃ h A' C', e = .returned (.tuple #[.slice (some ⟨h, 0, none⟩) N N, .int .i64 0]) ∧ Mat w' (some ⟨h, 0, none⟩) N A' (fun _ => l) C' (mm k S D) := by
  have hal : ∀ i, i < (th (isT L N) N).length → L (ti (isT L N) N i) = l := fun i hi => by
    obtain ⟨q1, q2⟩ := ti_mem hi
    exact hl _ q1 q2
  have h0 := hal 0 (by omega)
  rcases h with ⟨_, hno⟩ | ⟨_, _, hno⟩ | ⟨_, _, h, A', C', G, rfl, m, hG, hc⟩
  · exact absurd (fun i hi => by rw [hal i hi, h0]) hno
  · omega
  · refine ⟨h, A', C', rfl, m.congr (fun _ _ => h0) (fun _ => hlb) (fun i hi j hj => ?_) (mm_B hS.lt)⟩
    rw [h0] at hj
    cases q : isT L N i with
    | true => rw [hG i hi q, hF i hi q j hj]
    | false =>
      rcases hc with hc | ⟨Y, hY, lY, hc⟩
      · rw [hc i hi] at q; cases q
      · rw [hc i hi q j (by rw [h0]; exact hj), mm_rows (b' := fun x => mm k S D (ti (isT L N) N x)) (fun x hx => ?_)]
        · exact reb (q := fun i => i) hS.lt lY hD hY i j
        · obtain ⟨q1, q2⟩ := ti_mem (p := isT L N) (n := N) (i := x) (by omega)
          exact hF _ q1 q2 j hj

/-- Of too few. -/
theorem reb_short {w' : World} {k N l : Nat} {S F : Nat → Nat → Nat} {L : Nat → Nat} {e : Ending} (h : RebEnd w' k N S L F e) (hl : ∀ i, i < N → isT L N i = true → L i = l) (hn : 0 < (th (isT L N) N).length) (hk : (th (isT L N) N).length < k) : e = .returned (.tuple #[.slice none 0 0, .int .i64 2]) := by
  have hal : ∀ i, i < (th (isT L N) N).length → L (ti (isT L N) N i) = l := fun i hi => by
    obtain ⟨q1, q2⟩ := ti_mem hi
    exact hl _ q1 q2
  have h0 := hal 0 hn
  rcases h with ⟨_, hno⟩ | ⟨rfl, _⟩ | ⟨_, hno, _⟩
  · exact absurd (fun i hi => by rw [hal i hi, h0]) hno
  · rfl
  · omega

/-- Of rows of unlike lengths. -/
theorem reb_unlike {w' : World} {k N : Nat} {S F : Nat → Nat → Nat} {L : Nat → Nat} {e : Ending} (h : RebEnd w' k N S L F e) {i j : Nat} (hi : i < N) (hj : j < N) (pi : isT L N i = true) (pj : isT L N j = true) (hne : L i ≠ L j) : e = .returned (.tuple #[.slice none 0 0, .int .i64 1]) := by
  have no : ¬ ∀ x, x < (th (isT L N) N).length → L (ti (isT L N) N x) = L (ti (isT L N) N 0) := fun z => by
    have h1 := z _ (ti_has hi pi)
    have h2 := z _ (ti_has hj pj)
    rw [ti_at hi pi] at h1
    rw [ti_at hj pj] at h2
    exact hne (h1.trans h2.symm)
  rcases h with ⟨rfl, _⟩ | ⟨_, z, _⟩ | ⟨z, _⟩
  · rfl
  · exact absurd z no
  · exact absurd z no

/-- Where all are of length nought, all are there. -/
theorem isT_zero {L : Nat → Nat} {N : Nat} (h : ∀ i, i < N → L i = 0) (i : Nat) : isT L N i = true := by
  have : mx L N = 0 := by
    by_cases z : 0 < mx L N
    · obtain ⟨j, hj, e⟩ := mx_at z
      rw [h j hj] at e; omega
    · omega
  unfold isT; simp [this]
/-- Where one is not, those are that are longer. -/
theorem isT_pos {L : Nat → Nat} {N x : Nat} (hx : x < N) (h : 0 < L x) (i : Nat) : isT L N i = decide (0 < L i) := by
  have := mx_ge (L := L) hx
  have q : mx L N ≠ 0 := by omega
  unfold isT; simp [q]
end Go.Proofs.Ytbfhmdphhhjlnaa
