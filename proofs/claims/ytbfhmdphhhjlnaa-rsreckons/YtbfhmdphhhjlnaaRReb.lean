/-
  What the document's own Rebuild does.
-/
import Derived.Test.YtbfhmdphhhjlnaaROwn
namespace Go.Proofs.Ytbfhmdphhhjlnaa
open Go.RowKit Gf
attribute [local go_sem ↓] Go.wp_at_zero Go.wp_at_succ

/-- How the document's Rebuild ends, of N rows. -/
def REnd (w' : World) (k N : Nat) (S : Nat → Nat → Nat) (L : Nat → Nat) (F : Nat → Nat → Nat) (e : Ending) : Prop :=
  let P := isT L N
  let t := ti P N
  (e = .returned (.tuple #[.slice none 0 0, .int .i64 1]) ∧ ¬ (∀ i, i < (th P N).length → L (t i) = L (t 0))) ∨
  (e = .returned (.tuple #[.slice none 0 0, .int .i64 2]) ∧ (∀ i, i < (th P N).length → L (t i) = L (t 0)) ∧ (th P N).length < k) ∨
  ((∀ i, i < (th P N).length → L (t i) = L (t 0)) ∧ k ≤ (th P N).length ∧ ∃ a c A' C' G, e = .returned (.tuple #[.slice a N c, .int .i64 0]) ∧ Mat w' a N A' (fun _ => L (t 0)) C' G ∧ (∀ i, i < N → P i = true → ∀ j, j < L (t 0) → G i j = F i j) ∧
    ((∀ i, i < N → P i = true) ∨ ∃ Y, IsInv k (fun i => S (t i)) Y ∧ B Y ∧ ∀ i, i < N → P i = false → ∀ j, j < L (t 0) → G i j = mm k S (mm k Y (fun x => F (t x))) i j))

theorem th_some {p : Nat → Bool} {n x : Nat} (hx : x < n) (h : p x = true) : 0 < (th p n).length := by
  have := ti_has hx h
  omega

/-- The cells that the two slices hold. -/
def c8 (P : Nat → Bool) (N k : Nat) : List Value := (List.range k).map fun i => .int .i64 ((ti P N i : Nat) : Int)
def c9 (P : Nat → Bool) (N l k : Nat) (A : Nat → Option Addr) (C : Nat → Nat) : List Value := (List.range k).map fun i => .slice (A (ti P N i)) l (C (ti P N i))
theorem c8_succ {P : Nat → Bool} {N r : Nat} (hr : r < N) (h : P r = true) : c8 P N ((th P r).length + 1) = c8 P N (th P r).length ++ [.int .i64 ((r : Nat) : Int)] := by
  unfold c8; rw [List.range_succ, List.map_append, List.map_singleton, ti_at hr h]
theorem c9_succ {P : Nat → Bool} {N l r : Nat} {A : Nat → Option Addr} {C : Nat → Nat} (hr : r < N) (h : P r = true) : c9 P N l ((th P r).length + 1) A C = c9 P N l (th P r).length A C ++ [.slice (A r) l (C r)] := by
  unfold c9; rw [List.range_succ, List.map_append, List.map_singleton, ti_at hr h]

theorem alloc_two (D : World) (u v : Value) (s t : TypeId) : ((D.alloc (.cells #[u] s)).alloc (.cells #[v] t)).cell? ⟨D.heap.size, 0, none⟩ = some u ∧ ((D.alloc (.cells #[u] s)).alloc (.cells #[v] t)).cell? ⟨D.heap.size + 1, 0, none⟩ = some v ∧ ((D.alloc (.cells #[u] s)).alloc (.cells #[v] t)).heap.size = D.heap.size + 2 := by
  have h1 : (D.alloc (.cells #[u] s)).heap.size = D.heap.size + 1 := by simp
  have h2 : (D.alloc (.cells #[u] s)).cell? ⟨D.heap.size, 0, none⟩ = some u := by rw [World.cell?_alloc_new]; rfl
  refine ⟨((bal _ _).cell (p := ⟨D.heap.size, 0, none⟩) (by show D.heap.size < _; omega)).trans h2, ?_, by simp⟩
  rw [← h1, World.cell?_alloc_new]; rfl

set_option maxRecDepth 100000 in
theorem rrebuild_len (p k m N : Nat) (S : Nat → Nat → Nat) (w : World) (a : Option Addr) (n c : Nat) (hcode : RCode w p k m N S) (hno : n ≠ N) :
    Calls Try.prog 17 #[.pointer (some ⟨p, 0, none⟩), .slice a n c] w fun e w' => e = .returned (.tuple #[.slice none 0 0, .int .i64 1]) ∧ Below w.heap.size w w' := by
  obtain ⟨hS, xc, AS, CS, c0, c1, c2, mS⟩ := hcode.ex
  have km := hcode.km
  have N2 := hcode.N2
  have hNi : (k : Int) + (m : Int) = (N : Int) := by omega
  have hk' : ((n : Nat) : Int) ≠ (N : Int) := by omega
  clear hno hcode mS km c2
  go_enter Try.func17, Try.ntmps17
  go_wp2
  go_quiet (fail)
  go_wp2
  go_ret2
  exact ⟨rfl, below_drewN (Below.refl _ _) _⟩

set_option maxRecDepth 100000 in
set_option maxHeartbeats 8000000 in
theorem rrebuild_any (p k m N : Nat) (S : Nat → Nat → Nat) (w : World) (a : Option Addr) (c : Nat) (A : Nat → Option Addr) (L C : Nat → Nat) (F : Nat → Nat → Nat) (hcode : RCode w p k m N S) (h : Mat w a N A L C F) (hL : ∀ i, i < N → L i ≤ 140737488355328) :
    Calls Try.prog 17 #[.pointer (some ⟨p, 0, none⟩), .slice a N c] w fun e w' => REnd w' k N S L F e ∧ Below w.heap.size w w' := by
  have k1 := hcode.k1
  have km := hcode.km
  have m1 := hcode.m1
  have N2 := hcode.N2
  have HC : Hid (RCode w p k m N S) := hcode
  have HM : Hid (Mat w a N A L C F) := h
  have HL : Hid (∀ i, i < N → L i ≤ 140737488355328) := hL
  have HLe : Hid (∀ i, L i ≤ 9223372036854775807) := h.le
  have HF : Hid (B F) := h.lt
  obtain ⟨hS, xc, AS, CS, c0, c1, c2, mS⟩ := hcode.ex
  obtain ⟨b, o, rfl, hc⟩ := h.lies (by omega)
  have d0 := hc 0 (by omega)
  have pb : p < w.heap.size := block_lt_of_cell c0
  have bb : b < w.heap.size := block_lt_of_cell d0
  have hNi : (k : Int) + (m : Int) = (N : Int) := by omega
  obtain ⟨sb, so, eS, _⟩ := mS.lies (by omega)
  injection eS with eS
  subst eS
  have MS : Hid (Mat w (some ⟨sb, so, none⟩) N AS (fun _ => k) CS S) := mS
  clear h hcode hL mS hc d0
  go_enter Try.func17, Try.ntmps17
  go_wp2
  go_quiet (fail)
  obtain ⟨W1, hW1⟩ : ∃ W, W = w.drewN nq := ⟨_, rfl⟩
  have b1 : Below w.heap.size w W1 := by rw [hW1]; exact below_drewN (Below.refl _ _) nq
  rw [← hW1]
  clear hW1
  go_wp2
  go_loop [6, 7] (fun x v => ∃ r : Nat, r ≤ N ∧ v = .int .i64 r ∧ x = .int .i64 ((mx L r : Nat) : Int)) (fun _ v => N - (intOf v).toNat)
  case atStart => exact ⟨0, by omega, rfl, rfl⟩
  case round =>
  obtain ⟨r, hr, rfl, rfl⟩ := hrel
  by_cases hlt : r < N
  · obtain ⟨b', o', e, hc⟩ := (HM.out.keep b1).lies (by omega)
    injection e with e; injection e with e1 e2; subst e1 e2
    have ck := hc r hlt
    have ik : (r : Int) < (N : Int) := by omega
    have l1 := HLe.out r
    have l2 := mx_le HLe.out r
    have HX : Hid (mx L (r + 1) = max (mx L r) (L r)) := rfl
    clear hc HL
    generalize A r = ak at *
    generalize C r = cck at *
    generalize L r = lk at *
    generalize mx L r = mk at *
    go_wp2
    all_goals
      go_round
      case rel => exact ⟨r + 1, by omega, by go_num, by rw [HX.out]; first | rfl | (congr 1; omega)⟩
      case measure => simp [intOf]; omega
  have : N = r := by omega
  subst this
  clear hr hlt
  obtain ⟨l, hl⟩ : ∃ l, mx L N = l := ⟨_, rfl⟩
  have HMX : Hid (mx L N = l) := hl
  have hlm := mx_le HLe.out N
  rw [hl] at hlm ⊢
  clear hl
  by_cases hl0 : l = 0
  · subst hl0
    have hz : ∀ i, i < N → L i = 0 := fun i hi => by have := mx_ge (L := L) hi; have := HMX.out; omega
    have HT : Hid (∀ i, isT L N i = true) := isT_zero hz
    have HZ : Hid (∀ i, i < N → L i = 0) := hz
    have mk := run_make_row' (P := Try.prog) 27 30 (.slice none 0 0) 24 Try.underlying27 info27 rfl .i64 .i64 N (by omega) (by omega)
    obtain ⟨W2, hW2⟩ : ∃ W, W = W1.alloc (.cells (madeCells #[.slice none 0 0] N) 30) := ⟨_, rfl⟩
    have mkr : Sem.run Try.prog (Instr.makeSlice 27 (.int .i64 (N : Int)) (.int .i64 (N : Int))) W1 = .ok (.slice (some ⟨W1.heap.size, 0, none⟩) N N) W2 := by rw [hW2]; exact mk W1
    have H0 : Hid (Hold W2 W1.heap.size N (fun _ => none) (fun _ => 0) (fun _ => 0) F) := by rw [hW2]; exact Hold.made W1 N F HF.out
    have HB0 : Hid (Below W1.heap.size W1 W2) := by rw [hW2]; exact bal _ _
    clear mk hW2 hz
    go_wp2
    go_ret2
    refine ⟨.inr (.inr ?_), hop b1 HB0.out⟩
    have hth : th (isT L N) N = th (fun _ => true) N := th_congr (fun i _ => HT.out i)
    have hlen : (th (isT L N) N).length = N := by rw [hth, th_all]
    have hti : ∀ i, i < N → L (ti (isT L N) N i) = 0 := fun i hi => HZ.out _ (ti_mem (by rw [hlen]; exact hi)).1
    refine ⟨fun i hi => ?_, by omega, _, _, _, _, F, rfl, H0.out.mat.congr (fun i hi => (hti 0 (by omega)).symm) (fun _ => by rw [hti 0 (by omega)]; omega) (fun _ _ j hj => absurd hj (by omega)) HF.out, fun _ _ _ _ _ => rfl, .inl fun i _ => HT.out i⟩
    rw [hlen] at hi
    rw [hti i hi, hti 0 (by omega)]
  have hlb : ((l : Int) == 0) = false := by simp; omega
  obtain ⟨y, hy, hyl⟩ := mx_at (L := L) (n := N) (by have := HMX.out; omega)
  rw [HMX.out] at hyl
  have HP : Hid (∀ i, isT L N i = decide (0 < L i)) := isT_pos hy (by omega)
  have HY : Hid (y < N ∧ L y = l) := ⟨hy, hyl⟩
  have hl47 : l ≤ 140737488355328 := by rw [← hyl]; exact HL.out y hy
  clear hy hyl hlm
  obtain ⟨P, hP⟩ : ∃ P, P = isT L N := ⟨_, rfl⟩
  have HPd : Hid (P = isT L N) := hP
  rw [← hP] at HP
  clear hP
  go_wp2
  go_loopw [8, 9, 10] (fun v8 v9 v wr => ∃ q : Nat, q ≤ N ∧ v = .int .i64 q ∧ Duo wr w.heap.size v8 v9 (th P q).length (c8 P N (th P q).length) (c9 P N l (th P q).length A C) ∧ (∀ i, i < q → L i = 0 ∨ L i = l) ∧ Below w.heap.size w wr) (fun _ _ v _ => N - (intOf v).toNat)
  case atStart => exact ⟨0, by omega, rfl, ⟨World.ownsRow_nil W1 w.heap.size 3 1, World.ownsRow_nil W1 w.heap.size 30 1, .inl rfl⟩, fun i hi => absurd hi (by omega), b1⟩
  case round =>
  obtain ⟨q, hq, rfl, duo, hsame, hb⟩ := hrel
  clear b1
  rename World => wo
  have HD : Hid (Duo wo w.heap.size u8 u9 (th P q).length (c8 P N (th P q).length) (c9 P N l (th P q).length A C)) := duo
  have HSm : Hid (∀ i, i < q → L i = 0 ∨ L i = l) := hsame
  clear duo hsame
  have lth := th_len_le P q
  by_cases hlt : q < N
  · obtain ⟨b', o', e, hc⟩ := (HM.out.keep hb).lies (by omega)
    injection e with e; injection e with e1 e2; subst e1 e2
    have cq := hc q hlt
    have iq : (q : Int) < (N : Int) := by omega
    have lq := HL.out q hlt
    clear hc
    by_cases hz : L q = 0
    · have hPq : P q = false := by rw [HP.out q, hz]; rfl
      have HD2 : Hid (Duo wo w.heap.size u8 u9 (th P (q + 1)).length (c8 P N (th P (q + 1)).length) (c9 P N l (th P (q + 1)).length A C)) := by rw [th_no hPq]; exact HD.out
      have HSm2 : Hid (∀ i, i < q + 1 → L i = 0 ∨ L i = l) := fun i hi => by
        by_cases e : i = q
        · rw [e]; exact .inl hz
        · exact HSm.out i (by omega)
      rw [hz] at cq
      clear hPq hz lq
      generalize A q = aq at *
      generalize C q = xq at *
      go_wp2
      go_round
      case rel => exact ⟨q + 1, by omega, by go_num, HD2.out, HSm2.out, hb⟩
      case measure => simp [intOf]; omega
    by_cases hql : L q = l
    rotate_left
    · have hno : ¬ (∀ i, i < (th P N).length → L (ti P N i) = L (ti P N 0)) := fun z => by
        have hPq : P q = true := by rw [HP.out q]; exact decide_eq_true (by omega)
        have hPy : P y = true := by rw [HP.out y]; exact decide_eq_true (by have := HY.out.2; omega)
        have h1 := z _ (ti_has hlt hPq)
        have h2 := z _ (ti_has HY.out.1 hPy)
        rw [ti_at hlt hPq] at h1
        rw [ti_at HY.out.1 hPy] at h2
        have := HY.out.2
        omega
      have HNo : Hid (¬ (∀ i, i < (th P N).length → L (ti P N i) = L (ti P N 0))) := hno
      have gz : ((L q : Int) == 0) = false := by simp; omega
      have gl : ((L q : Nat) : Int) ≠ (l : Int) := by omega
      clear hno hz hql
      generalize A q = aq at *
      generalize C q = xq at *
      generalize L q = lq' at *
      go_wp2
      go_ret2
      refine ⟨.inl ⟨rfl, ?_⟩, hb⟩
      have := HNo.out
      rwa [HPd.out] at this
    have hPq : P q = true := by rw [HP.out q]; exact decide_eq_true (by omega)
    rw [hql] at cq
    have HSm2 : Hid (∀ i, i < q + 1 → L i = 0 ∨ L i = l) := fun i hi => by
      by_cases e : i = q
      · rw [e]; exact .inr hql
      · exact HSm.out i (by omega)
    have e8 := c8_succ hlt hPq
    have e9 := c9_succ (l := l) (A := A) (C := C) hlt hPq
    have eth : (th P (q + 1)).length = (th P q).length + 1 := by rw [th_yes hPq]; simp
    have HE : Hid (∀ (X : World) (x y : Value), Duo X w.heap.size x y ((th P q).length + 1) (c8 P N (th P q).length ++ [.int .i64 ((q : Nat) : Int)]) (c9 P N l (th P q).length A C ++ [.slice (A q) l (C q)]) → Duo X w.heap.size x y (th P (q + 1)).length (c8 P N (th P (q + 1)).length) (c9 P N l (th P (q + 1)).length A C)) := fun X x y d => by
      rw [eth, e8, e9]; exact d
    clear e8 e9 eth hz hql hPq lq
    -- the three orders
    have hsb := hb.size
    have ub8 : ∀ g, u8.ownBlock = some g → g < wo.heap.size := fun g e => (HD.out.a.lt g e).2
    have bq : b < wo.heap.size := block_lt_of_cell cq
    have key : ∀ (X : World) (g8 g9 : Nat), Below wo.heap.size wo X → X.cell? ⟨g8, 0, none⟩ = some (.int .i64 ((q : Nat) : Int)) → X.cell? ⟨g9, 0, none⟩ = some (.slice (A q) l (C q)) → wo.heap.size ≤ g9 → g9 < X.heap.size →
        ∃ v8 W1 v9 W3, Sem.run Try.prog (Builtin.append_ #[63, 63] 63 #[u8, .slice (some ⟨g8, 0, none⟩) 1 1]) X = .ok v8 W1 ∧ Sem.run Try.prog (Builtin.append_ #[27, 27] 27 #[u9, .slice (some ⟨g9, 0, none⟩) 1 1]) W1 = .ok v9 W3 ∧ Duo W3 w.heap.size v8 v9 (th P (q + 1)).length (c8 P N (th P (q + 1)).length) (c9 P N l (th P (q + 1)).length A C) ∧ Below w.heap.size w W1 ∧ Below w.heap.size w W3 := fun X g8 g9 hbX h8 h9 hg9 hg9' => by
      have hsX := hbX.size
      obtain ⟨v8, W1, r1, bW1, _, hcell, hcont⟩ := (HD.out.keep hbX).push (by omega) h8 rfl (by omega)
      obtain ⟨v9, W3, r3, d3, bW3⟩ := hcont W1 g9 _ (Below.refl _ _) (hcell g9 _ hg9' (fun e => by have := ub8 g9 e.symm; omega) h9) rfl
      have bX : Below w.heap.size w X := hop hb hbX
      exact ⟨v8, W1, v9, W3, r1, r3, HE.out _ _ _ d3, bX.trans bW1, bX.trans bW3⟩
    have key1 : ∃ v8 W1 v9 W3, Sem.run Try.prog (Builtin.append_ #[63, 63] 63 #[u8, .slice (some ⟨wo.heap.size, 0, none⟩) 1 1]) (wo.drew.alloc (.cells #[.int .i64 (q : Int)] 3)) = .ok v8 W1 ∧ Sem.run Try.prog (Builtin.append_ #[27, 27] 27 #[u9, .slice (some ⟨W1.heap.size, 0, none⟩) 1 1]) (W1.alloc (.cells #[.slice (A q) l (C q)] 30)) = .ok v9 W3 ∧ Duo W3 w.heap.size v8 v9 (th P (q + 1)).length (c8 P N (th P (q + 1)).length) (c9 P N l (th P (q + 1)).length A C) ∧ Below w.heap.size w W1 ∧ Below w.heap.size w W3 := by
      have hbX : Below wo.heap.size wo (wo.drew.alloc (.cells #[.int .i64 (q : Int)] 3)) := (Below.refl _ _).drew.alloc (Nat.le_refl _) _
      have hsX := hbX.size
      obtain ⟨v8, W1, r1, bW1, _, hcell, hcont⟩ := (HD.out.keep hbX).push (g8 := wo.heap.size) (u8 := .int .i64 (q : Int)) (by omega) (by
        have : (wo.drew.alloc (.cells #[.int .i64 (q : Int)] 3)).cell? ⟨wo.drew.heap.size, 0, none⟩ = some (.int .i64 (q : Int)) := by rw [World.cell?_alloc_new]; rfl
        exact this) rfl (by omega)
      obtain ⟨v9, W3, r3, d3, bW3⟩ := hcont (W1.alloc (.cells #[.slice (A q) l (C q)] 30)) W1.heap.size (.slice (A q) l (C q)) (bal _ _) (by rw [World.cell?_alloc_new]; rfl) rfl
      have bX : Below w.heap.size w (wo.drew.alloc (.cells #[.int .i64 (q : Int)] 3)) := hop hb hbX
      exact ⟨v8, W1, v9, W3, r1, r3, HE.out _ _ _ d3, bX.trans bW1, bX.trans bW3⟩
    have key2 := key ((wo.drew.alloc (.cells #[.int .i64 (q : Int)] 3)).alloc (.cells #[.slice (A q) l (C q)] 30)) wo.heap.size (wo.heap.size + 1) (((Below.refl _ _).drew.alloc (Nat.le_refl _) _).alloc (by simp) _) (alloc_two wo.drew _ _ _ _).1 (alloc_two wo.drew _ _ _ _).2.1 (by omega) (by rw [(alloc_two wo.drew _ _ _ _).2.2]; show wo.heap.size + 1 < wo.heap.size + 2; omega)
    have key3 := key ((wo.drew.alloc (.cells #[.slice (A q) l (C q)] 30)).alloc (.cells #[.int .i64 (q : Int)] 3)) (wo.heap.size + 1) wo.heap.size (((Below.refl _ _).drew.alloc (Nat.le_refl _) _).alloc (by simp) _) (alloc_two wo.drew _ _ _ _).2.1 (alloc_two wo.drew _ _ _ _).1 (Nat.le_refl _) (by rw [(alloc_two wo.drew _ _ _ _).2.2]; show wo.heap.size < wo.heap.size + 2; omega)
    obtain ⟨va8, Wa1, va9, Wa3, ra1, ra2, da, ba1, ba3⟩ := key1
    obtain ⟨vb8, Wb1, vb9, Wb3, rb1, rb2, db, bb1, bb3⟩ := key2
    obtain ⟨vc8, Wc1, vc9, Wc3, rc1, rc2, dc, bc1, bc3⟩ := key3
    have RA1 : Hid (Sem.run Try.prog (Builtin.append_ #[63, 63] 63 #[u8, .slice (some ⟨wo.heap.size, 0, none⟩) 1 1]) (wo.alloc (.cells #[.int .i64 (q : Int)] 3)).drew = .ok va8 Wa1) := ra1
    have RA2 : Hid (Sem.run Try.prog (Builtin.append_ #[27, 27] 27 #[u9, .slice (some ⟨Wa1.heap.size, 0, none⟩) 1 1]) (Wa1.alloc (.cells #[.slice (A q) l (C q)] 30)) = .ok va9 Wa3) := ra2
    have RB1 : Hid (Sem.run Try.prog (Builtin.append_ #[63, 63] 63 #[u8, .slice (some ⟨wo.heap.size, 0, none⟩) 1 1]) ((wo.alloc (.cells #[.int .i64 (q : Int)] 3)).alloc (.cells #[.slice (A q) l (C q)] 30)).drew = .ok vb8 Wb1) := rb1
    have RB2 : Hid (Sem.run Try.prog (Builtin.append_ #[27, 27] 27 #[u9, .slice (some ⟨wo.heap.size + 1, 0, none⟩) 1 1]) Wb1 = .ok vb9 Wb3) := rb2
    have RC1 : Hid (Sem.run Try.prog (Builtin.append_ #[63, 63] 63 #[u8, .slice (some ⟨wo.heap.size + 1, 0, none⟩) 1 1]) ((wo.alloc (.cells #[.slice (A q) l (C q)] 30)).alloc (.cells #[.int .i64 (q : Int)] 3)).drew = .ok vc8 Wc1) := rc1
    have RC2 : Hid (Sem.run Try.prog (Builtin.append_ #[27, 27] 27 #[u9, .slice (some ⟨wo.heap.size, 0, none⟩) 1 1]) Wc1 = .ok vc9 Wc3) := rc2
    obtain ⟨b', o', e, hc⟩ := HM.out.lies (by omega)
    injection e with e; injection e with e1 e2; subst e1 e2
    have cw := hc q hlt
    rw [show L q = l from by rcases HSm2.out q (by omega) with z | z
                             · exfalso; have := (hb.cell (p := ⟨b, o + q, none⟩) bb).trans cw; rw [cq, z] at this; injection this with this; injection this with _ this _; omega
                             · exact z] at cw
    have sa1 := (ba1.cell (p := ⟨b, o + q, none⟩) bb).trans cw
    have sa2 : (Wa1.alloc (.cells #[.slice (A q) l (C q)] 30)).cell? ⟨b, o + q, none⟩ = some (.slice (A q) l (C q)) := ((ba1.trans ((bal _ _).mono ba1.size)).cell (p := ⟨b, o + q, none⟩) bb).trans cw
    have sa3 := (ba3.cell (p := ⟨b, o + q, none⟩) bb).trans cw
    have sb1 := (bb1.cell (p := ⟨b, o + q, none⟩) bb).trans cw
    have sb3 := (bb3.cell (p := ⟨b, o + q, none⟩) bb).trans cw
    have sc1 := (bc1.cell (p := ⟨b, o + q, none⟩) bb).trans cw
    have sc3 := (bc3.cell (p := ⟨b, o + q, none⟩) bb).trans cw
    have D1 : Hid _ := da
    have D2 : Hid _ := db
    have D3 : Hid _ := dc
    clear ra1 ra2 rb1 rb2 rc1 rc2 da db dc hc key HE
    generalize A q = aq at *
    generalize C q = xq at *
    go_wp2
    go_region_held3 (fun w' => w'.cell? ⟨b, o + q, none⟩ = some (.slice aq l xq)) (first | with_reducible exact cq | with_reducible exact sa1 | with_reducible exact sa2 | with_reducible exact sa3 | with_reducible exact sb1 | with_reducible exact sb3 | with_reducible exact sc1 | with_reducible exact sc3 | go_keep)
      (first
        | refine step_append_ran (by rfl) _ _ 63 (by rfl) u8 (.slice (some ⟨wo.heap.size, 0, none⟩) 1 1) va8 Wa1 (by rfl) (by rfl) (by dsimp only; with_reducible exact RA1.out) ?_
        | refine step_append_ran (by rfl) _ _ 63 (by rfl) u8 (.slice (some ⟨wo.heap.size, 0, none⟩) 1 1) vb8 Wb1 (by rfl) (by rfl) (by dsimp only; with_reducible exact RB1.out) ?_
        | refine step_append_ran (by rfl) _ _ 63 (by rfl) u8 (.slice (some ⟨wo.heap.size + 1, 0, none⟩) 1 1) vc8 Wc1 (by rfl) (by rfl) (by dsimp only; with_reducible exact RC1.out) ?_
        | refine step_append_ran (by rfl) _ _ 27 (by rfl) u9 (.slice (some ⟨Wa1.heap.size, 0, none⟩) 1 1) va9 Wa3 (by rfl) (by rfl) (by dsimp only; with_reducible exact RA2.out) ?_
        | refine step_append_ran (by rfl) _ _ 27 (by rfl) u9 (.slice (some ⟨wo.heap.size + 1, 0, none⟩) 1 1) vb9 Wb3 (by rfl) (by rfl) (by dsimp only; with_reducible exact RB2.out) ?_
        | refine step_append_ran (by rfl) _ _ 27 (by rfl) u9 (.slice (some ⟨wo.heap.size, 0, none⟩) 1 1) vc9 Wc3 (by rfl) (by rfl) (by dsimp only; with_reducible exact RC2.out) ?_)
    all_goals
      go_wp2
      go_round
      case rel => exact ⟨q + 1, by omega, by go_num, by first | exact D1.out | exact D2.out | exact D3.out, HSm2.out, by first | exact ba3 | exact bb3 | exact bc3⟩
      case measure => simp [intOf]; omega
  have : N = q := by omega
  subst this
  have hP1 : ∀ i, i < N → P i = true → L i = l := fun i hi hp => by
    rcases HSm.out i hi with z | z
    · rw [HP.out i, z] at hp; cases hp
    · exact z
  obtain ⟨nt, hnt⟩ : ∃ x, (th P N).length = x := ⟨_, rfl⟩
  have HNT : Hid ((th P N).length = nt) := hnt
  rw [hnt] at HD lth
  have hti : ∀ i, i < nt → ti P N i < N ∧ P (ti P N i) = true := fun i hi => ti_mem (by rw [hnt]; exact hi)
  have HTI : Hid (∀ i, i < nt → ti P N i < N ∧ P (ti P N i) = true) := hti
  have HP1 : Hid (∀ i, i < N → P i = true → L i = l) := hP1
  have hny : 0 < nt := by
    rw [← hnt]
    exact th_some HY.out.1 (by rw [HP.out]; exact decide_eq_true (by have := HY.out.2; omega))
  have HAL : Hid (∀ i, i < nt → L (ti P N i) = l) := fun i hi => hP1 _ (hti i hi).1 (hti i hi).2
  have o8 : OwnI wo w.heap.size u8 nt (fun i => ((ti P N i : Nat) : Int)) := HD.out.a
  obtain ⟨a8, x8, rfl, i8, hx8⟩ := o8.form2
  have hM := HM.out.keep hb
  have r9 : Rws wo w.heap.size u9 nt (fun _ => l) (fun x => F (ti P N x)) := by
    refine ⟨fun i => A (ti P N i), fun i => C (ti P N i), HD.out.b, fun i hi => ?_, fun i hi hl ad e z => ?_, fun i hi e => ?_⟩
    · have := hM.row _ (hti i hi).1
      rwa [HAL.out i hi] at this
    · have hr := HM.out.row _ (hti i hi).1
      rw [HAL.out i hi] at hr
      obtain ⟨b', o', e', hc'⟩ := hr.lies hl
      rw [e] at e'; injection e' with e'; subst e'
      have h1 := block_lt_of_cell (hc' 0 hl)
      have h2 := HD.out.b.lt b' z.symm
      simp only at h1
      omega
    · have := hM.nil _ (hti i hi).1 e
      rwa [HAL.out i hi] at this
  obtain ⟨a9, x9, A9, C9, rfl, m9, _⟩ := r9.form (fun _ => by omega) (fun i j => HF.out _ _)
  have HI8 : Hid (IRow wo a8 nt (fun i => ((ti P N i : Nat) : Int))) := i8
  have HM9 : Hid (Mat wo a9 nt A9 (fun _ => l) C9 (fun x => F (ti P N x))) := m9
  have q0 := (hb.cell (p := ⟨p, 0, none⟩) pb).trans c0
  have q2 := (hb.cell (p := ⟨p, 2, none⟩) pb).trans c2
  clear o8 i8 r9 m9 hM HD hnt hti hP1 HSm
  by_cases hsh : nt < k
  · have hsh' : (nt : Int) < (k : Int) := by omega
    go_wp2
    go_ret2
    refine ⟨.inr (.inl ⟨rfl, ?_, ?_⟩), hb⟩
    · rw [← HPd.out, HNT.out]; intro i hi; rw [HAL.out i hi, HAL.out 0 hny]
    · rw [← HPd.out, HNT.out]; exact hsh
  have hsh' : ¬ (nt : Int) < (k : Int) := by omega
  have ikx : (k : Int) ≤ (x8 : Int) := by omega
  have K1 : Hid (Calls Try.prog 38 #[.slice (some ⟨sb, so, none⟩) N xc, .slice a8 k x8] wo.drew fun e w' => ∃ v c' A' C', e = .returned (.tuple #[.slice v k c', .bool true]) ∧ Mat w' v k A' (fun _ => k) C' (fun i => S (ti P N i)) ∧ Below wo.heap.size wo w' ∧ (w'.cell? ⟨p, 0, none⟩ = some (.int .i64 k) ∧ w'.cell? ⟨p, 2, none⟩ = some (.slice (some ⟨sb, so, none⟩) N xc))) := by
    refine (rrows_any (some ⟨sb, so, none⟩) a8 N k xc x8 k AS CS S (ti P N) wo.drew ((MS.out.keep hb).drewN 1) (fun h0 => (HI8.out.take (by omega)) h0) (by omega) N2 k1 (by omega) k1 (by omega) (fun i hi => (HTI.out i (by omega)).1)).mono ?_
    rintro e w5 ⟨v, rfl, ⟨A', C', bl⟩, b5⟩
    obtain ⟨av, cv, rfl⟩ := bl.form
    have b5' : Below wo.heap.size wo w5 := (Below.refl wo.heap.size wo).drew.trans b5
    exact ⟨av, cv, A', C', rfl, bl.mat (fun _ => by omega) (fun i j => HC.out.sys.lt _ _), b5', (b5'.cell (p := ⟨p, 0, none⟩) (block_lt_of_cell q0)).trans q0, (b5'.cell (p := ⟨p, 2, none⟩) (block_lt_of_cell q2)).trans q2⟩
  go_wp2
  go_region_held3 (fun w' => w'.cell? ⟨p, 0, none⟩ = some (.int .i64 k) ∧ w'.cell? ⟨p, 2, none⟩ = some (.slice (some ⟨sb, so, none⟩) N xc)) (first | exact y4 | exact ⟨q0, q2⟩)
    ((go_at_call 38; refine K1.out.mono ?_; rintro e w5 ⟨av, cv, A5, C5, rfl, m5, b5, y4⟩))
  have cI := rinvert_any av k cv A5 C5 (fun i => S (ti P N i)) w5 m5 k1 (by omega) (HC.out.sys.inj (fun i hi => by have := (HTI.out i (by omega)).1; omega) (fun i hi j hj e => ti_inj (p := P) (n := N) (by rw [HNT.out]; omega) (by rw [HNT.out]; omega) e))
  clear K1 m5
  go_wp2_with fail
  go_at_call 39
  refine cI.mono ?_
  rintro e w6 ⟨hy6, cy6, Gy, Cy, Y, lo, top, rfl, sq, lY, hinv, b6⟩
  clear cI
  have b56 : Below wo.heap.size wo w6 := hop b5 b6
  have b06 : Below w.heap.size w w6 := hop hb b56
  have MY : Hid (Mat w6 (some ⟨hy6, 0, none⟩) k (fun i => some ⟨Gy i, 0, none⟩) (fun _ => k) Cy Y) := sq.mat (by omega) lY
  have IV : Hid (IsInv k (fun i => S (ti P N i)) Y) := hinv
  have LY : Hid (B Y) := lY
  have M9 : Hid (Mat w6 a9 nt A9 (fun _ => l) C9 (fun x => F (ti P N x))) := HM9.out.keep b56
  have z0 := (b06.cell (p := ⟨p, 0, none⟩) pb).trans c0
  have hp6 : p < w6.heap.size := block_lt_of_cell z0
  obtain ⟨H9, hH9⟩ : ∃ H : Nat → Nat → Nat, (fun x => F (ti P N x)) = H := ⟨_, rfl⟩
  have HH9 : Hid ((fun x => F (ti P N x)) = H9) := hH9
  have BH9 : Hid (B H9) := by rw [← hH9]; exact fun i j => HF.out _ _
  rw [hH9] at M9
  clear sq hinv lY b5 b6 b56 HM9 q0 q2 y4 hH9
  go_wp2
  go_loopw [15, 16] (fun s v wr => ∃ i : Nat, i ≤ k ∧ v = .int .i64 i ∧ Rws wr w6.heap.size s i (fun _ => l) (mm k Y H9) ∧ Below w6.heap.size w6 wr) (fun _ v _ => k - (intOf v).toNat)
  case atStart => exact ⟨0, by omega, rfl, Rws.start w6 w6.heap.size _ _, Below.refl _ _⟩
  case round =>
  obtain ⟨i, hi, rfl, hrw, hb7⟩ := hrel
  have HRw : Hid (Rws _ w6.heap.size u15 i (fun _ => l) (mm k Y H9)) := hrw
  clear hrw
  rename World => w7
  have z7 := (hb7.cell (p := ⟨p, 0, none⟩) hp6).trans z0
  by_cases hlt : i < k
  · have ii : (i : Int) < (k : Int) := by omega
    have mk := run_make_row' (P := Try.prog) 30 5 (.int .u8 0) 1 Try.underlying30 info5 rfl .i64 .i64 l (by omega) (by omega)
    obtain ⟨W8, hW8⟩ : ∃ W, W = w7.alloc (.cells (madeCells #[.int .u8 0] l) 5) := ⟨_, rfl⟩
    have mkr : Sem.run Try.prog (Instr.makeSlice 30 (.int .i64 (l : Int)) (.int .i64 (l : Int))) w7 = .ok (.slice (some ⟨w7.heap.size, 0, none⟩) l l) W8 := by rw [hW8]; exact mk w7
    have H0 : Hid (Row W8 (some ⟨w7.heap.size, 0, none⟩) l (comb 0 (Y i) H9)) := by
      refine ⟨fun j => comb_lt (LY.out i) j, fun _ => ⟨w7.heap.size, 0, rfl, fun j hj => ?_⟩⟩
      rw [Nat.zero_add, hW8, World.cell?_alloc_new, ← Array.getElem?_toList, toList_madeCells_one, List.getElem?_replicate, if_pos hj]
      rfl
    have HB8 : Hid (Below w7.heap.size w7 W8) := by rw [hW8]; exact bal _ _
    clear hW8 mk
    go_wp2
    clear mkr z7
    go_loopw [17, 18] (fun s v wr => ∃ (t : Nat) (x : Option Addr) (cx : Nat), t ≤ k ∧ v = .int .i64 t ∧ s = .slice x l cx ∧ Row wr x l (comb t (Y i) H9) ∧ (x = none → l = 0 ∧ cx = 0) ∧ (∀ ad, x = some ad → w7.heap.size ≤ ad.block) ∧ Below w7.heap.size w7 wr) (fun _ v _ => k - (intOf v).toNat)
    case atStart => exact ⟨0, _, _, by omega, rfl, rfl, H0.out, fun e => (by cases e), fun ad e => (by injection e with e; subst e; exact Nat.le_refl _), HB8.out⟩
    case round =>
      obtain ⟨t, x, cx, ht, rfl, rfl, hrow, hxn, hxb, hbr⟩ := hrel
      clear H0 HB8
      have hbw : Below w6.heap.size w6 wr := hb7.trans (hbr.mono hb7.size)
      have y0 := (hbw.cell (p := ⟨p, 0, none⟩) hp6).trans z0
      by_cases hlt2 : t < k
      · have it : (t : Int) < (k : Int) := by omega
        have itn : (t : Int) < (nt : Int) := by omega
        have m9 := M9.out.keep hbw
        have mY := MY.out.keep hbw
        obtain ⟨b9, o9, rfl, hc9⟩ := m9.lies (by omega)
        have d9 : wr.cell? ⟨b9, o9 + t, none⟩ = some (.slice (A9 t) l (C9 t)) := hc9 t (by omega)
        have dY := mY.cellAt hlt
        obtain ⟨bY, oY, eY, hcY⟩ := (mY.row i hlt).lies (by omega)
        have eY' : some (⟨Gy i, 0, none⟩ : Addr) = some ⟨bY, oY, none⟩ := eY
        injection eY' with eY'; injection eY' with e1 e2; subst e1 e2
        have dr := hcY t hlt2
        rw [Nat.zero_add] at dr
        have lS := LY.out i t
        have K : Hid (Calls Try.prog 21 #[.slice x l cx, .slice (A9 t) l (C9 t), .int .u8 ((Y i t : Nat) : Int)] wr.drew fun e w' => ∃ x' cx', e = .returned (.slice x' l cx') ∧ Row w' x' l (comb (t + 1) (Y i) H9) ∧ (x' = none → l = 0 ∧ cx' = 0) ∧ (∀ ad, x' = some ad → w7.heap.size ≤ ad.block) ∧ Below w7.heap.size w7 w' ∧ (w'.cell? ⟨b9, o9 + t, none⟩ = some (.slice (A9 t) l (C9 t)) ∧ w'.cell? ⟨hy6, i, none⟩ = some (.slice (some ⟨Gy i, 0, none⟩) k (Cy i)) ∧ w'.cell? ⟨Gy i, t, none⟩ = some (.int .u8 ((Y i t : Nat) : Int)))) := by
          refine (radd_comb t l cx (C9 t) x (A9 t) (Y i) H9 wr.drew (LY.out i) (hrow.drewN 1) ((m9.row t (by omega)).drewN 1) hxn hl47).mono ?_
          rintro e w9 ⟨x', cx', rfl, hr9, hn9, hk9, hb9⟩
          have hb9' : Below wr.heap.size wr w9 := (Below.refl wr.heap.size wr).drew.trans hb9
          have hsz := hbr.size
          refine ⟨x', cx', rfl, hr9, hn9, fun ad e => ?_, hop hbr hb9', (hb9'.cell (p := ⟨b9, o9 + t, none⟩) (block_lt_of_cell d9)).trans d9, (hb9'.cell (p := ⟨hy6, i, none⟩) (block_lt_of_cell dY)).trans dY, (hb9'.cell (p := ⟨Gy i, t, none⟩) (block_lt_of_cell dr)).trans dr⟩
          have := hk9 ad e
          have q3 : wr.drew.heap.size = wr.heap.size := rfl
          omega
        clear hc9 m9 mY hcY eY hrow hxn hxb hbr hbw
        generalize A9 t = at' at *
        generalize C9 t = ct' at *
        obtain ⟨gy, hgy⟩ : ∃ y, Gy i = y := ⟨_, rfl⟩
        obtain ⟨cyi, hcyi⟩ : ∃ y, Cy i = y := ⟨_, rfl⟩
        obtain ⟨sv, hsv⟩ : ∃ y, Y i t = y := ⟨_, rfl⟩
        rw [hgy] at dY dr K
        rw [hcyi] at dY K
        rw [hsv] at dr K lS
        clear hgy hcyi hsv
        go_wp2
        go_region_held3 (fun w' => w'.cell? ⟨b9, o9 + t, none⟩ = some (.slice at' l ct') ∧ w'.cell? ⟨hy6, i, none⟩ = some (.slice (some ⟨gy, 0, none⟩) k cyi) ∧ w'.cell? ⟨gy, t, none⟩ = some (.int .u8 (sv : Int))) (first | exact y9 | exact ⟨d9, dY, dr⟩)
          ((go_at_call 21; refine K.out.mono ?_; rintro e w9 ⟨x', cx', rfl, y5, y6, y7, y8, y9⟩))
        all_goals
          go_wp2
          go_round
          case rel => exact ⟨t + 1, _, _, by omega, by go_num, rfl, y5, y6, y7, y8⟩
          case measure => simp [intOf]; omega
      · have : k = t := by omega
        subst this
        obtain ⟨v', W9, hr9, hbl9, hb9⟩ := HRw.out.push (c := cx) Try.underlying27 hbr hb7.size hrow (fun _ ad e z => by
          have z1 := hxb ad e
          have z2 := HRw.out.lt ad.block z.symm
          omega) hxn (fun j hj => rfl) (mm_B LY.out) (by omega)
        have R9 : Hid _ := hr9
        have HE : Hid (Rws W9 w6.heap.size v' (i + 1) (fun _ => l) (mm k Y H9)) := hbl9
        have HBE : Hid (Below w6.heap.size w6 W9) := hb7.trans hb9
        clear hr9 hbl9 hb9 hrow hxn hxb hbr hb7 hbw
        go_wp2_with (at_builtin; refine wpList_append_ran (by rfl) _ _ 27 (by rfl) _ _ _ _ (by rfl) (by rfl) R9.out ?_)
        go_wp2
        go_round
        case rel => exact ⟨i + 1, by omega, by go_num, HE.out, HBE.out⟩
        case measure => simp [intOf]; omega
  have : k = i := by omega
  subst this
  obtain ⟨ad', dc, AD, CD, rfl, mD, _⟩ := HRw.out.form (fun _ => by omega) (mm_B LY.out)
  have cE := rencode_yes p k m N S w7 ad' dc l AD CD (mm k Y H9) (HC.out.keep (hop b06 hb7)) mD hl47
  clear HRw mD
  go_wp2_with fail
  go_at_call 16
  refine cE.mono ?_
  rintro e w8 ⟨v8, rfl, r8, b8⟩
  clear cE
  obtain ⟨h8, cc8, A8, C8, rfl, hold8, hbase8⟩ := r8.hold (by omega) (fun _ => by omega) (mm_B HC.out.sys.lt)
  have b08 : Below w.heap.size w w8 := hop b06 (hop hb7 b8)
  have hwh : w.heap.size ≤ h8 := by have := (hop b06 hb7).size; omega
  have H0 : Hid (Hold w8 h8 N A8 (fun _ => l) C8 (mm k S (mm k Y H9))) := hold8
  clear r8 hold8 b8 hb7 b06 z7 z0 M9 MY
  go_wp2
  go_loopw [21] (fun v wr => ∃ (r : Nat) (A' : Nat → Option Addr) (C' : Nat → Nat) (G : Nat → Nat → Nat), r ≤ N ∧ v = .int .i64 r ∧ Hold wr h8 N A' (fun _ => l) C' G ∧ (∀ i, i < N → G i = if i < r ∧ P i = true then F i else mm k S (mm k Y H9) i) ∧ Below w.heap.size w wr) (fun v _ => N - (intOf v).toNat)
  case atStart => exact ⟨0, _, _, _, by omega, rfl, H0.out, fun i _ => by rw [if_neg (by omega)], b08⟩
  case round =>
  obtain ⟨r, A', C', G, hr, rfl, hold, hG, hbr⟩ := hrel
  clear H0 b08
  have HH : Hid (Hold wr h8 N A' (fun _ => l) C' G) := hold
  have HG : Hid (∀ i, i < N → G i = if i < r ∧ P i = true then F i else mm k S (mm k Y H9) i) := hG
  clear hold hG
  by_cases hlt : r < N
  · have ir : (r : Int) < (N : Int) := by omega
    have hM := HM.out.keep hbr
    obtain ⟨b', o', e, hc⟩ := hM.lies (by omega)
    injection e with e; injection e with e1 e2; subst e1 e2
    have cr := hc r hlt
    clear hc
    cases hp : P r with
    | false =>
      have hz : L r = 0 := by rw [HP.out r] at hp; have := of_decide_eq_false hp; omega
      have HG2 : Hid (∀ i, i < N → G i = if i < r + 1 ∧ P i = true then F i else mm k S (mm k Y H9) i) := fun i hi => by
        rw [HG.out i hi]
        by_cases e : i = r
        · rw [e, hp, if_neg (by simp), if_neg (by simp)]
        · by_cases q : i < r ∧ P i = true
          · rw [if_pos q, if_pos ⟨by omega, q.2⟩]
          · rw [if_neg q, if_neg (fun z => q ⟨by omega, z.2⟩)]
      rw [hz] at cr
      clear hz hp hM
      generalize A r = ar at *
      generalize C r = xr' at *
      go_wp2
      go_round
      case rel => exact ⟨r + 1, A', C', G, by omega, by go_num, HH.out, HG2.out, hbr⟩
      case measure => simp [intOf]; omega
    | true =>
      have hLr := HP1.out r hlt hp
      have hrow := hM.row r hlt
      have hnil := hM.nil r hlt
      rw [hLr] at cr hrow hnil
      obtain ⟨a1, c1', W, hr1, hnew, hb1⟩ := appended0 (c := C r) hrow hnil hl47
      have hold1 := (HH.out.keep hb1).set (c := c1') hlt hnew.row hnew.nil (by omega)
      have eL : upd (fun _ => l) r l = fun _ => l := by funext i; unfold upd; split <;> rfl
      rw [eL] at hold1
      have HE : Hid (Hold (W.setCell ⟨h8, r, none⟩ (.slice a1 l c1')) h8 N (upd A' r a1) (fun _ => l) (upd C' r c1') (upd G r (F r))) := hold1
      have HB : Hid (Below w.heap.size w (W.setCell ⟨h8, r, none⟩ (.slice a1 l c1'))) := (hop hbr hb1).setCell hwh _
      have HG2 : Hid (∀ i, i < N → upd G r (F r) i = if i < r + 1 ∧ P i = true then F i else mm k S (mm k Y H9) i) := fun i hi => by
        by_cases e : i = r
        · subst e; rw [upd_at, if_pos ⟨by omega, hp⟩]
        · rw [upd_ne _ _ e, HG.out i hi]
          by_cases q : i < r ∧ P i = true
          · rw [if_pos q, if_pos ⟨by omega, q.2⟩]
          · rw [if_neg q, if_neg (fun z => q ⟨by omega, z.2⟩)]
      have ch := (HH.out.keep hb1).mat.cellAt hlt
      have fh := (HH.out.keep hb1).soft r hlt
      have R1 : Hid _ := hr1
      have gl : (0 : Int) < (l : Int) := by omega
      clear hold1 hr1 hnew hb1 hM hrow hnil hp eL hbr HG HH
      generalize A r = ar at *
      generalize C r = xr' at *
      generalize A' r = ar2 at *
      generalize C' r = xr2 at *
      go_wp2_with (at_builtin; refine wpList_append_ran (by rfl) _ _ 30 (by rfl) _ _ _ _ (by rfl) (by rfl) R1.out ?_)
      go_wp2
      go_round
      case rel => exact ⟨r + 1, _, _, _, by omega, by go_num, HE.out, HG2.out, HB.out⟩
      case measure => simp [intOf]; omega
  have : N = r := by omega
  subst this
  have hti0 := HAL.out 0 hny
  have HE : Hid (Mat wr (some ⟨h8, 0, none⟩) N A' (fun _ => L (ti P N 0)) C' G) := by rw [hti0]; exact HH.out.mat
  have HG1 : Hid (∀ i, i < N → P i = true → ∀ j, j < L (ti P N 0) → G i j = F i j) := fun i hi hp j _ => by rw [HG.out i hi, if_pos ⟨hi, hp⟩]
  have HG2 : Hid (∀ i, i < N → P i = false → ∀ j, j < L (ti P N 0) → G i j = mm k S (mm k Y (fun x => F (ti P N x))) i j) := fun i hi hp j _ => by
    rw [HG.out i hi, if_neg (fun z => by rw [hp] at z; cases z.2), HH9.out]
  clear HH HG
  go_wp2
  go_ret2
  refine ⟨.inr (.inr ?_), hbr⟩
  rw [← HPd.out, HNT.out]
  exact ⟨fun i hi => by rw [HAL.out i hi, hti0], by omega, _, _, A', C', G, rfl, HE.out, HG1.out, .inr ⟨Y, IV.out, LY.out, HG2.out⟩⟩
end Go.Proofs.Ytbfhmdphhhjlnaa
