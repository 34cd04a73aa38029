/-
  What the document's own Encode does.
-/
import Derived.Test.YtbfhmdphhhjlnaaRcd
namespace Go.Proofs.Ytbfhmdphhhjlnaa
open Go.RowKit Gf
attribute [local go_sem ↓] Go.wp_at_zero Go.wp_at_succ

theorem Bld.rws {w : World} {base k : Nat} {v : Value} {A : Nat → Option Addr} {L C : Nat → Nat} {F : Nat → Nat → Nat} (b : Bld w base v k A L C F) : Rws w base v k L F :=
  ⟨A, C, b.own, b.row, fun i hi _ ad e => (b.blk i hi ad e).2.1, b.nil⟩
theorem Rws.congr {w : World} {base k : Nat} {v : Value} {L : Nat → Nat} {F G : Nat → Nat → Nat} (b : Rws w base v k L F) (e : ∀ i, i < k → ∀ j, j < L i → F i j = G i j) (hG : B G) : Rws w base v k L G := by
  obtain ⟨A, C, b⟩ := b
  exact ⟨A, C, b.own, fun i hi => (b.row i hi).congr (e i hi) (hG i), b.blk, b.nil⟩
theorem Rws.keep {w w' : World} {base k : Nat} {v : Value} {L : Nat → Nat} {F : Nat → Nat → Nat} (b : Rws w base v k L F) (hb : Below w.heap.size w w') : Rws w' base v k L F := by
  obtain ⟨A, C, b⟩ := b
  exact ⟨A, C, b.own.kept (grown_of_below (row := none) hb) (by cases v.ownBlock <;> simp), fun i hi => (b.row i hi).keep hb, b.blk, b.nil⟩
theorem Rws.mono {w : World} {base base' k : Nat} {v : Value} {L : Nat → Nat} {F : Nat → Nat → Nat} (b : Rws w base v k L F) (h : base' ≤ base) : Rws w base' v k L F := by
  obtain ⟨A, C, b⟩ := b
  refine ⟨A, C, ⟨b.own.1, ?_⟩, b.row, b.blk, b.nil⟩
  rcases b.own.2 with q | ⟨g, cap, cur, e, hg, r⟩
  · exact .inl q
  · exact .inr ⟨g, cap, cur, e, by omega, r⟩

set_option maxRecDepth 100000 in
set_option maxHeartbeats 4000000 in
theorem rencode_yes (p k m N : Nat) (S : Nat → Nat → Nat) (w : World) (a : Option Addr) (c l : Nat) (A : Nat → Option Addr) (C : Nat → Nat) (F : Nat → Nat → Nat) (hcode : RCode w p k m N S) (h : Mat w a k A (fun _ => l) C F) (hl : l ≤ 140737488355328) :
    Calls Try.prog 16 #[.pointer (some ⟨p, 0, none⟩), .slice a k c] w fun e w' => ∃ v, e = .returned (.tuple #[v, .int .i64 0]) ∧ Rws w' w.heap.size v N (fun _ => l) (mm k S F) ∧ Below w.heap.size w w' := by
  have k1 := hcode.k1
  have m1 := hcode.m1
  have km := hcode.km
  have N2 := hcode.N2
  have cEv := even_yes a k c A (fun _ => l) C F w h (by omega) (fun _ _ => rfl)
  have HC : Hid (RCode w p k m N S) := hcode
  have HM : Hid (Mat w a k A (fun _ => l) C F) := h
  obtain ⟨hS, xc, AS, CS, c0, c1, c2, mS⟩ := hcode.ex
  obtain ⟨sb, so, eS, hcS⟩ := mS.lies (by omega)
  injection eS with eS
  subst eS
  have MS : Hid (Mat w (some ⟨sb, so, none⟩) N AS (fun _ => k) CS S) := mS
  obtain ⟨b, o, rfl, hc⟩ := h.lies (by omega)
  have d0 := hc 0 (by omega)
  simp only [Nat.add_zero] at d0
  have i0 : (0 : Int) < (k : Int) := by omega
  have hNi : (k : Int) + (m : Int) = (N : Int) := by omega
  have pb : p < w.heap.size := block_lt_of_cell c0
  have bb : b < w.heap.size := block_lt_of_cell d0
  have HKm : Hid (k + m = N) := km
  clear h hcode mS hcS hc km
  obtain ⟨a0, ha0⟩ : ∃ y, A 0 = y := ⟨_, rfl⟩
  obtain ⟨cc0, hcc0⟩ : ∃ y, C 0 = y := ⟨_, rfl⟩
  rw [ha0, hcc0] at d0
  clear ha0 hcc0
  go_enter Try.func16, Try.ntmps16
  go_wp2_with fail
  go_at_call 37
  refine cEv.mono ?_
  rintro e w1 ⟨rfl, q, rfl⟩
  clear cEv
  obtain ⟨W1, hW1⟩ : ∃ W, W = w.drewN q := ⟨_, rfl⟩
  have b1 : Below w.heap.size w W1 := by rw [hW1]; exact below_drewN (Below.refl _ _) q
  rw [← hW1]
  have hs1 : W1.heap.size = w.heap.size := by rw [hW1]; rfl
  clear hW1
  have cC := copy_any (some ⟨b, o, none⟩) k c A (fun _ => l) C F W1 (HM.out.keep b1) (by omega) (fun _ _ => hl)
  go_wp2_with fail
  go_at_call 20
  refine cC.mono ?_
  rintro e w2 ⟨v2, rfl, ⟨A2, C2, bl2⟩, b2⟩
  clear cC
  have HR2 : Hid (Rws w2 w.heap.size v2 k (fun _ => l) (mm k S F)) := by
    rw [← hs1]
    exact bl2.rws.congr (fun i hi j _ => (enc_top HC.out.sys HM.out.lt hi).symm) (mm_B HC.out.sys.lt)
  have b02 : Below w.heap.size w w2 := hop b1 b2
  have q0 := (b02.cell (p := ⟨p, 0, none⟩) pb).trans c0
  clear bl2 b1 b2 hs1
  go_wp2
  clear q0
  go_loopw [6, 7] (fun s v wr => ∃ r : Nat, k ≤ r ∧ r ≤ N ∧ v = .int .i64 r ∧ Rws wr w.heap.size s r (fun _ => l) (mm k S F) ∧ Below w.heap.size w wr) (fun _ v _ => N - (intOf v).toNat)
  case atStart => exact ⟨k, by omega, by have := HKm.out; omega, rfl, HR2.out, b02⟩
  case round =>
  obtain ⟨r, hkr, hrN, rfl, hrw, hb⟩ := hrel
  clear HR2 b02
  rename World => wo
  have HRw : Hid (Rws wo w.heap.size u6 r (fun _ => l) (mm k S F)) := hrw
  have q0 := (hb.cell (p := ⟨p, 0, none⟩) pb).trans c0
  have q1 := (hb.cell (p := ⟨p, 1, none⟩) pb).trans c1
  have q3 := (hb.cell (p := ⟨b, o, none⟩) bb).trans d0
  clear hrw
  by_cases hlt : r < N
  · have ir : (r : Int) < (N : Int) := by omega
    go_wp2
    go_quiet (fail)
    obtain ⟨W3, hW3⟩ : ∃ W, W = wo.drewN nq := ⟨_, rfl⟩
    have b3 : Below wo.heap.size wo W3 := by rw [hW3]; exact below_drewN (Below.refl _ _) nq
    have z0 : W3.cell? ⟨p, 0, none⟩ = some (.int .i64 k) := by rw [hW3]; exact q0
    have z3 : W3.cell? ⟨b, o, none⟩ = some (.slice a0 l cc0) := by rw [hW3]; exact q3
    have hs3 : W3.heap.size = wo.heap.size := by rw [hW3]; rfl
    have mk := run_make_row' (P := Try.prog) 30 5 (.int .u8 0) 1 Try.underlying30 info5 rfl .i64 .i64 l (by omega) (by omega)
    obtain ⟨W4, hW4⟩ : ∃ W, W = W3.alloc (.cells (madeCells #[.int .u8 0] l) 5) := ⟨_, rfl⟩
    have mkr : Sem.run Try.prog (Instr.makeSlice 30 (.int .i64 (l : Int)) (.int .i64 (l : Int))) W3 = .ok (.slice (some ⟨W3.heap.size, 0, none⟩) l l) W4 := by rw [hW4]; exact mk W3
    have H0 : Hid (Row W4 (some ⟨W3.heap.size, 0, none⟩) l (comb 0 (S r) F)) := by
      refine ⟨fun j => comb_lt (HC.out.sys.lt r) j, fun _ => ⟨W3.heap.size, 0, rfl, fun i hi => ?_⟩⟩
      rw [Nat.zero_add, hW4, World.cell?_alloc_new, ← Array.getElem?_toList, toList_madeCells_one, List.getElem?_replicate, if_pos hi]
      rfl
    have HB4 : Hid (Below wo.heap.size wo W4) := by rw [hW4]; exact hop b3 (bal _ _)
    rw [← hW3]
    rw [hs3] at mkr H0
    clear hW3 hW4 mk b3 q0 q1 q3 hs3
    go_wp2
    clear mkr z0 z3
    go_loopw [8, 9] (fun s v wr => ∃ (t : Nat) (x : Option Addr) (cx : Nat), t ≤ k ∧ v = .int .i64 t ∧ s = .slice x l cx ∧ Row wr x l (comb t (S r) F) ∧ (x = none → l = 0 ∧ cx = 0) ∧ (∀ ad, x = some ad → wo.heap.size ≤ ad.block) ∧ Below wo.heap.size wo wr) (fun _ v _ => k - (intOf v).toNat)
    case atStart => exact ⟨0, _, _, by omega, rfl, rfl, H0.out, fun e => (by cases e), fun ad e => (by injection e with e; subst e; exact Nat.le_refl _), HB4.out⟩
    case round =>
      obtain ⟨t, x, cx, ht, rfl, rfl, hrow, hxn, hxb, hbr⟩ := hrel
      clear H0 HB4
      have hbw : Below w.heap.size w wr := hb.trans (hbr.mono hb.size)
      have y0 := (hbw.cell (p := ⟨p, 0, none⟩) pb).trans c0
      by_cases hlt2 : t < k
      · have it : (t : Int) < (k : Int) := by omega
        have y2 := (hbw.cell (p := ⟨p, 2, none⟩) pb).trans c2
        have mM := HM.out.keep hbw
        have mS := MS.out.keep hbw
        obtain ⟨b', o', e, hc⟩ := mM.lies (by omega)
        injection e with e; injection e with e1 e2; subst e1 e2
        obtain ⟨b', o', e, hcS⟩ := mS.lies (by omega)
        injection e with e; injection e with e1 e2; subst e1 e2
        have dt := hc t hlt2
        have ds := hcS r hlt
        obtain ⟨br, or', er, hcr⟩ := (mS.row r hlt).lies (by omega)
        rw [er] at ds
        have dr := hcr t hlt2
        have lS := HC.out.sys.lt r t
        have K : Hid (Calls Try.prog 21 #[.slice x l cx, .slice (A t) l (C t), .int .u8 ((S r t : Nat) : Int)] wr.drew fun e w' => ∃ x' cx', e = .returned (.slice x' l cx') ∧ Row w' x' l (comb (t + 1) (S r) F) ∧ (x' = none → l = 0 ∧ cx' = 0) ∧ (∀ ad, x' = some ad → wo.heap.size ≤ ad.block) ∧ Below wo.heap.size wo w' ∧ (w'.cell? ⟨p, 2, none⟩ = some (.slice (some ⟨sb, so, none⟩) N xc) ∧ w'.cell? ⟨b, o + t, none⟩ = some (.slice (A t) l (C t)) ∧ w'.cell? ⟨sb, so + r, none⟩ = some (.slice (some ⟨br, or', none⟩) k (CS r)) ∧ w'.cell? ⟨br, or' + t, none⟩ = some (.int .u8 ((S r t : Nat) : Int)))) := by
          refine (radd_comb t l cx (C t) x (A t) (S r) F wr.drew (HC.out.sys.lt r) (hrow.drewN 1) ((mM.row t hlt2).drewN 1) hxn hl).mono ?_
          rintro e w5 ⟨x', cx', rfl, hr5, hn5, hk5, hb5⟩
          have hb5' : Below wr.heap.size wr w5 := (Below.refl wr.heap.size wr).drew.trans hb5
          have hsz := hbr.size
          refine ⟨x', cx', rfl, hr5, hn5, fun ad e => ?_, hop hbr hb5', (hb5'.cell (p := ⟨p, 2, none⟩) (block_lt_of_cell y2)).trans y2, (hb5'.cell (p := ⟨b, o + t, none⟩) (block_lt_of_cell dt)).trans dt, (hb5'.cell (p := ⟨sb, so + r, none⟩) (block_lt_of_cell ds)).trans ds, (hb5'.cell (p := ⟨br, or' + t, none⟩) (block_lt_of_cell dr)).trans dr⟩
          have := hk5 ad e
          have q3 : wr.drew.heap.size = wr.heap.size := rfl
          omega
        clear hc hcS mM mS hcr er hrow hxn hxb hbr hbw
        generalize A t = at' at *
        generalize C t = ct' at *
        generalize CS r = csr at *
        generalize hsv : S r t = sv at *
        clear hsv
        go_wp2
        go_region_held3 (fun w' => w'.cell? ⟨p, 2, none⟩ = some (.slice (some ⟨sb, so, none⟩) N xc) ∧ w'.cell? ⟨b, o + t, none⟩ = some (.slice at' l ct') ∧ w'.cell? ⟨sb, so + r, none⟩ = some (.slice (some ⟨br, or', none⟩) k csr) ∧ w'.cell? ⟨br, or' + t, none⟩ = some (.int .u8 (sv : Int))) (first | exact y9 | exact ⟨y2, dt, ds, dr⟩)
          ((go_at_call 21; refine K.out.mono ?_; rintro e w5 ⟨x', cx', rfl, y5, y6, y7, y8, y9⟩))
        all_goals
          go_wp2
          go_round
          case rel => exact ⟨t + 1, _, _, by omega, by go_num, rfl, y5, y6, y7, y8⟩
          case measure => simp [intOf]; omega
      · have : t = k := by omega
        subst this
        obtain ⟨v', W5, hr5, hbl5, hb5⟩ := HRw.out.push (c := cx) Try.underlying27 hbr hb.size hrow (fun _ ad e z => by
          have z1 := hxb ad e
          have z2 := HRw.out.lt ad.block z.symm
          omega) hxn (fun j hj => rfl) (mm_B HC.out.sys.lt) (by omega)
        have R5 : Hid _ := hr5
        have HE : Hid (Rws W5 w.heap.size v' (r + 1) (fun _ => l) (mm t S F)) := hbl5
        have HBE : Hid (Below w.heap.size w W5) := hb.trans hb5
        clear hr5 hbl5 hb5 hrow hxn hxb hbr hb hbw
        go_wp2_with (at_builtin; refine wpList_append_ran (by rfl) _ _ 27 (by rfl) _ _ _ _ (by rfl) (by rfl) R5.out ?_)
        go_wp2
        go_round
        case rel => exact ⟨r + 1, by omega, by omega, by go_num, HE.out, HBE.out⟩
        case measure => simp [intOf]; omega
  · have e : r = N := by omega
    subst e
    go_wp2
    go_quiet (fail)
    go_wp2
    go_ret2
    exact ⟨_, rfl, by
      obtain ⟨A', C', b'⟩ := HRw.out
      exact ⟨A', C', b'.own, fun i hi => (b'.row i hi).drewN nq, b'.blk, b'.nil⟩, below_drewN hb _⟩

set_option maxRecDepth 100000 in
theorem rencode_no (p k m N : Nat) (S : Nat → Nat → Nat) (w : World) (a : Option Addr) (n c : Nat) (A : Nat → Option Addr) (L C : Nat → Nat) (F : Nat → Nat → Nat) (hcode : RCode w p k m N S) (h : Mat w a n A L C F) (hn : n ≤ 9223372036854775807) (hno : ¬ (n = k ∧ ∀ i, i < n → L i = L 0)) :
    Calls Try.prog 16 #[.pointer (some ⟨p, 0, none⟩), .slice a n c] w fun e w' => e = .returned (.tuple #[.slice none 0 0, .int .i64 1]) ∧ Below w.heap.size w w' := by
  obtain ⟨hS, xc, AS, CS, c0, c1, c2, mS⟩ := hcode.ex
  have k2 := hcode.km
  have k3 := hcode.N2
  by_cases hk : n = k
  · have cA := even_no a n c A L C F w h hn (fun q => hno ⟨hk, q⟩)
    clear hno mS h hcode k2
    rw [← hk] at c0
    clear hk
    go_enter Try.func16, Try.ntmps16
    go_wp2_with fail
    go_at_call 37
    refine cA.mono ?_
    rintro e w' ⟨rfl, q, rfl⟩
    go_wp2
    go_ret2
    exact ⟨rfl, below_drewN (Below.refl _ _) _⟩
  · have hk' : ((n : Nat) : Int) ≠ (k : Int) := by omega
    clear hno mS h hcode hk k2
    go_enter Try.func16, Try.ntmps16
    go_wp2
    go_ret2
    exact ⟨rfl, Below.refl _ _⟩
end Go.Proofs.Ytbfhmdphhhjlnaa
