/-
  The order of entries; what page.Sort answers: a sorted permutation.
-/
import Derived.Test.YtahnkkifegdjeaaEnV
namespace Go.Proofs.Ytahnkkifegdjeaa
open Go.RowKit Go.Shelf Go.Sort Nq
attribute [local go_sem ↓] Go.wp_at_zero Go.wp_at_succ
set_option linter.unusedVariables false

set_option maxRecDepth 100000 in
theorem nan_any (x : Int) (w : World) : Calls Try.prog 38 #[.int .i64 x] w fun e w' => e = .returned (.bool false) ∧ w = w' := by
  have h : (x != x) = false := by simp
  go_enter Try.func38, Try.ntmps38
  go_wp2
  go_ret
  exact ⟨by first | rfl | simp, rfl⟩
def cmpI (x y : Int) : Int := if x < y then -1 else if y < x then 1 else 0
set_option maxRecDepth 100000 in
theorem cmp_any (x y : Int) (w : World) : Calls Try.prog 34 #[.int .i64 x, .int .i64 y] w fun e w' => e = .returned (.int .i64 (cmpI x y)) ∧ w = w' := by
  have n1 := nan_any x
  have n2 := nan_any y
  unfold cmpI
  by_cases h1 : x < y
  · rw [if_pos h1]
    go_enter Try.func34, Try.ntmps34
    go_wp2_with fail
    go_at_call 38
    refine (n1 _).mono ?_
    rintro e w' ⟨rfl, rfl⟩
    go_wp2_with fail
    go_at_call 38
    refine (n2 _).mono ?_
    rintro e w' ⟨rfl, rfl⟩
    go_wp2
    go_ret
    exact ⟨rfl, rfl⟩
  · rw [if_neg h1]
    by_cases h2 : y < x
    · rw [if_pos h2]
      go_enter Try.func34, Try.ntmps34
      go_wp2_with fail
      go_at_call 38
      refine (n1 _).mono ?_
      rintro e w' ⟨rfl, rfl⟩
      go_wp2_with fail
      go_at_call 38
      refine (n2 _).mono ?_
      rintro e w' ⟨rfl, rfl⟩
      go_wp2
      go_ret
      exact ⟨rfl, rfl⟩
    · rw [if_neg h2]
      go_enter Try.func34, Try.ntmps34
      go_wp2_with fail
      go_at_call 38
      refine (n1 _).mono ?_
      rintro e w' ⟨rfl, rfl⟩
      go_wp2_with fail
      go_at_call 38
      refine (n2 _).mono ?_
      rintro e w' ⟨rfl, rfl⟩
      go_wp2
      go_ret
      exact ⟨rfl, rfl⟩

def ordE (x y : En) : Int := if ls (tx x.key) (tx y.key) = true then -1 else if ls (tx y.key) (tx x.key) = true then 1 else cmpI y.id x.id
/-- x stands ahead of y. -/
def ltE (x y : En) : Bool := ls (tx x.key) (tx y.key) || (decide (x.key = y.key) && decide (y.id < x.id))
theorem key_same {a b : ByteArray} (h1 : ls (tx a) (tx b) = false) (h2 : ls (tx b) (tx a) = false) : a = b := tx_inj (ls_none _ _ h1 h2)
theorem ltOf_ordE (x y : En) : ltOf ordE x y = ltE x y := by
  unfold ltOf ordE ltE
  cases h1 : ls (tx x.key) (tx y.key) with
  | true => simp
  | false =>
    cases h2 : ls (tx y.key) (tx x.key) with
    | true =>
      have : ¬ x.key = y.key := fun e => by rw [e, ls_same] at h2; cases h2
      simp [this]
    | false =>
      have := key_same h1 h2
      unfold cmpI
      by_cases h3 : y.id < x.id
      · simp [this, h3]
      · by_cases h4 : x.id < y.id <;> simp [h3, h4]
theorem ltE_irrefl (x : En) : ltE x x = false := by unfold ltE; simp [ls_same]
theorem ltE_trans (x y z : En) (h1 : ltE x y = true) (h2 : ltE y z = true) : ltE x z = true := by
  unfold ltE at *
  simp only [Bool.or_eq_true, Bool.and_eq_true, decide_eq_true_eq] at *
  rcases h1 with h1 | ⟨h1, g1⟩
  · rcases h2 with h2 | ⟨h2, g2⟩
    · exact .inl (ls_trans _ _ _ h1 h2)
    · rw [← h2]; exact .inl h1
  · rcases h2 with h2 | ⟨h2, g2⟩
    · rw [h1]; exact .inl h2
    · exact .inr ⟨h1.trans h2, by omega⟩
theorem ltE_no {x y : En} (h : ltE x y = false) : ls (tx y.key) (tx x.key) = true ∨ (x.key = y.key ∧ x.id ≤ y.id) := by
  unfold ltE at h
  simp only [Bool.or_eq_false_iff, Bool.and_eq_false_iff, decide_eq_false_iff_not] at h
  obtain ⟨h1, h2⟩ := h
  cases h3 : ls (tx y.key) (tx x.key) with
  | true => exact .inl rfl
  | false =>
    have := key_same h1 h3
    rcases h2 with h2 | h2
    · exact absurd this h2
    · exact .inr ⟨this, by omega⟩
theorem ltE_of {x y : En} (h : ls (tx y.key) (tx x.key) = true ∨ (x.key = y.key ∧ x.id ≤ y.id)) : ltE x y = false := by
  unfold ltE
  rcases h with h | ⟨h, g⟩
  · have h1 := ls_both _ _ h
    have : ¬ x.key = y.key := fun e => by rw [e, ls_same] at h; cases h
    simp [h1, this]
  · have : ¬ y.id < x.id := by omega
    simp [h, ls_same, this]
theorem ltE_ntrans (x y z : En) (h1 : ltE x y = false) (h2 : ltE y z = false) : ltE x z = false := by
  refine ltE_of ?_
  rcases ltE_no h1 with h1 | ⟨h1, g1⟩
  · rcases ltE_no h2 with h2 | ⟨h2, g2⟩
    · exact .inl (ls_trans _ _ _ h2 h1)
    · rw [← h2]; exact .inl h1
  · rcases ltE_no h2 with h2 | ⟨h2, g2⟩
    · rw [h1]; exact .inl h2
    · exact .inr ⟨h1.trans h2, by omega⟩
theorem swoE : SWO (ltOf ordE) where
  irrefl x := by rw [ltOf_ordE]; exact ltE_irrefl x
  trans x y z h1 h2 := by rw [ltOf_ordE] at *; exact ltE_trans x y z h1 h2
  ntrans x y z h1 h2 := by rw [ltOf_ordE] at *; exact ltE_ntrans x y z h1 h2

theorem grown2 (w : World) (o o' : Obj) : (w.alloc o).alloc o' = grow (w.drewN 0) #[o, o'] := by rw [alloc_eq_grow, alloc_eq_grow, grow_grow]; rfl
set_option maxRecDepth 100000 in
set_option maxHeartbeats 1000000 in
theorem order_any (x y : En) (w : World) : Calls Try.prog 30 #[ev x, ev y] w fun e w' => e = .returned (.int .i64 (ordE x y)) ∧ ∃ q os, w' = grow (w.drewN q) os := by
  obtain ⟨xk, xi, xm, xz, xs, xl⟩ := x
  obtain ⟨yk, yi, ym, yz, ys, yl⟩ := y
  unfold ordE ev
  dsimp only
  have l1 := less_any xk yk
  have l2 := less_any yk xk
  have c1 := cmp_any yi xi
  generalize cmpI yi xi = cc at *
  generalize ls (tx xk) (tx yk) = p at *
  generalize ls (tx yk) (tx xk) = q at *
  cases p with
  | true =>
    clear l2 c1
    go_enter Try.func30, Try.ntmps30
    go_wp2_with fail
    go_at_call 32
    refine (l1 _).mono ?_
    rintro e w' ⟨rfl, rfl⟩
    go_wp2
    go_ret
    exact ⟨rfl, 0, _, grown2 _ _ _⟩
  | false =>
    cases q with
    | true =>
      clear c1
      go_enter Try.func30, Try.ntmps30
      go_wp2_with fail
      go_at_call 32
      refine (l1 _).mono ?_
      rintro e w' ⟨rfl, rfl⟩
      go_wp2_with fail
      go_at_call 32
      refine (l2 _).mono ?_
      rintro e w' ⟨rfl, rfl⟩
      go_wp2
      go_ret
      exact ⟨rfl, 0, _, grown2 _ _ _⟩
    | false =>
      go_enter Try.func30, Try.ntmps30
      go_wp2_with fail
      go_at_call 32
      refine (l1 _).mono ?_
      rintro e w' ⟨rfl, rfl⟩
      go_wp2_with fail
      go_at_call 32
      refine (l2 _).mono ?_
      rintro e w' ⟨rfl, rfl⟩
      go_wp2_with fail
      go_at_call 34
      refine (c1 _).mono ?_
      rintro e w' ⟨rfl, rfl⟩
      go_wp2
      go_ret
      exact ⟨rfl, 0, _, grown2 _ _ _⟩

theorem ipTry : Ip Try.prog 6 where
  mixed := by kernel_rfl
  f33 := Try.func33
  f36 := Try.func36
  f37 := Try.func37
  f40 := Try.func40
  f41 := Try.func41
  t0 := Try.underlying0
  a0 := Try.isAgg0
  z0 := Try.sizeOf0
  v0 := Try.zeroValue0
  t3 := Try.underlying3
  a3 := Try.isAgg3
  z3 := Try.sizeOf3
  v3 := Try.zeroValue3
  t4 := Try.underlying4
  a4 := Try.isAgg4
  z4 := Try.sizeOf4
  v4 := Try.zeroValue4
  t22 := Try.underlying22
  a22 := Try.isAgg22
  z22 := Try.sizeOf22
  v22 := Try.zeroValue22
  t60 := Try.underlying60
  a60 := Try.isAgg60
  z60 := Try.sizeOf60
  v60 := Try.zeroValue60
  t65 := Try.underlying65
  a65 := Try.isAgg65
  z65 := Try.sizeOf65
  v65 := Try.zeroValue65
  aE := Try.isAgg48
  zE := Try.sizeOf48

/-- M is L, sorted. -/
def SortOf (L M : List En) : Prop := M.Perm L ∧ M.Pairwise (fun x y => ltE y x = false)
theorem sortOf_of {L : List En} {d : Array En} (hp : PermIn 0 L.toArray.size L.toArray d) (hs : SortedIn (ltOf ordE) 0 L.toArray.size d) : SortOf L d.toList := by
  obtain ⟨hsz, _, hperm⟩ := hp
  have e1 : d.extract 0 L.toArray.size = d := by rw [← hsz]; exact Array.extract_size
  rw [e1, Array.extract_size] at hperm
  refine ⟨by simpa using hperm, ?_⟩
  rw [List.pairwise_iff_getElem]
  intro i j hi hj hij
  have hi' : i < d.size := by simpa using hi
  have hj' : j < d.size := by simpa using hj
  have := hs i j (Nat.zero_le _) hij (by omega)
  rw [getElem!_pos d j hj', getElem!_pos d i hi', ltOf_ordE] at this
  simpa using this

theorem sort29 (w0 w : World) (g : Nat) (L : List En) (hb : Below w0.heap.size w0 w) (hg : w0.heap.size ≤ g) (h : EB w g L) (hl : L.length ≤ 1000000) :
    Calls Try.prog 29 #[.slice (some ⟨g, 0, none⟩) L.length L.length, .func (.func 30) #[] #[]] w fun e w' => e = .returned (.tuple #[]) ∧ ∃ M, SortOf L M ∧ EB w' g M ∧ Below w0.heap.size w0 w' := by
  have eg : ∀ args w, (callFunc 30 args).run Try.prog w = .ok (.enter 30 args) w := enters_of Try.func30 (by kernel_rfl) rfl
  have hC : CmpLays Try.prog 30 #[] cellsE 6 ordE g 0 L.toArray.size w := fun m os dk _ x y => order_any x y _
  have hR : RowK cellsE 6 w g 0 L.toArray := ⟨cellsE_length, fun x => cellsE_one x, h.holds, h.lt⟩
  have hc := stable_all ipTry cellsE ordE swoE 30 #[] g 0 L.length L.toArray w eg hC hR (by rw [List.size_toArray]; omega)
  rw [List.size_toArray] at hc
  have HL : Aside (EB w g L) := h
  have HB : Aside (Below w0.heap.size w0 w) := hb
  clear h hb hR hC eg
  go_enter Try.func29, Try.ntmps29
  go_wp2_with (go_at_call 33; refine hc.mono ?_; rintro e w' ⟨rfl, d, h1, h2, n, os, rfl⟩)
  go_end0
  refine ⟨rfl, d.toList, sortOf_of (by rw [List.size_toArray]; exact h1) (by rw [List.size_toArray]; exact h2), HL.out.sorted d os (by rw [h1.1, List.size_toArray]), below_sorted HB.out hg HL.out.lt d os⟩
set_option maxRecDepth 100000 in
set_option maxHeartbeats 1000000 in
/-- page.Sort. -/
theorem sort_any (a : Option Addr) (c : Nat) (L : List En) (w : World) (h : Es w a L) (hl : L.length ≤ 1000000) :
    Calls Try.prog 19 #[.slice a L.length c] w fun e w' => ∃ g M, e = .returned (.slice (some ⟨g, 0, none⟩) M.length M.length) ∧ M.length = L.length ∧ SortOf L M ∧ EB w' g M ∧ w.heap.size ≤ g ∧ Below w.heap.size w w' := by
  obtain ⟨W1, hm, ⟨cur, hh, hsz⟩, hb1⟩ := makeE w L.length hl
  have HC : ∃ W2, Sem.run Try.prog (Builtin.copy_ #[22, 22] 3 #[.slice (some ⟨w.heap.size, 0, none⟩) L.length L.length, .slice a L.length c]) W1 = .ok (goInt L.length) W2 ∧ EB W2 w.heap.size L ∧ Below w.heap.size w W2 := by
    by_cases h0 : 0 < L.length
    · obtain ⟨W2, k1, k2, k3⟩ := copyE (c := c) hh hsz (Nat.le_refl _) (h.keep hb1) h0
      exact ⟨W2, k1, k2, hb1.trans k3⟩
    · have e0 : L.length = 0 := by omega
      have : L = [] := List.length_eq_zero_iff.1 e0
      subst this
      exact ⟨W1, copy_none, ⟨cur, hh, Array.toList_eq_nil_iff.2 (Array.size_eq_zero_iff.1 (by simpa using hsz))⟩, hb1⟩
  obtain ⟨W2, hc, he, hb2⟩ := HC
  have hs := sort29 w W2 w.heap.size L hb2 (Nat.le_refl _) he hl
  generalize w.heap.size = B at *
  clear hh hsz hb1 he hb2 h
  go_enter Try.func19, Try.ntmps19
  go_wp2_with (go_at_call 29; refine hs.mono ?_; rintro e w' ⟨rfl, M, h1, h2, h3⟩)
  go_ret
  have e : M.length = L.length := h1.1.length_eq
  exact ⟨B, M, by rw [e]; rfl, e, h1, h2, Nat.le_refl _, h3⟩
end Go.Proofs.Ytahnkkifegdjeaa
