/-
  What the document's Objects and Versions answer.
-/
import Derived.Test.YtahnkkifegdjeaaRfP
namespace Go.Proofs.Ytahnkkifegdjeaa
open Go.RowKit Go.Shelf Go.Sort Nq Pg
attribute [local go_sem ↓] Go.wp_at_zero Go.wp_at_succ
set_option linter.unusedVariables false

set_option maxRecDepth 100000 in
set_option maxHeartbeats 2000000 in
theorem rpages_bad (a : Option Addr) (n c : Nat) (q : Aq) (vs : Bool) (w : World) (hm : ¬ (1 ≤ q.mo ∧ q.mo ≤ 1000)) :
    Calls Try.prog 27 #[.slice a n c, av q, .bool vs] w fun r w' => r = .returned (.tuple #[anv (.slice none 0 0) false ⟨#[]⟩ 0, .int .i64 1]) ∧ Below w.heap.size w w' := by
  obtain ⟨pr, fr, fi, mo⟩ := q
  dsimp only at hm
  obtain ⟨W1, hbx, hA, hb⟩ := box_aq w 24 ⟨pr, fr, fi, mo⟩
  obtain ⟨W2, hb2⟩ : ∃ W2, W1.alloc (.cells #[.slice none 0 0, .bool false, .string ⟨#[]⟩, .int .i64 0] 34) = W2 := ⟨_, rfl⟩
  have b2 : Below W1.heap.size W1 W2 := by rw [← hb2]; exact bal _ _
  have hd : AB W2 W1.heap.size (.slice none 0 0) false ⟨#[]⟩ 0 := by rw [← hb2]; exact heap_alloc_new _ _
  obtain ⟨c0, c1, c2, c3, f0⟩ := hd.cells
  obtain ⟨d0, d1, d2, d3⟩ := hA.keep b2
  have HB : Hid (Below w.heap.size w W2 ∧ w.heap.size ≤ W1.heap.size) := ⟨hop hb b2, hb.size⟩
  unfold av anv
  dsimp only at *
  clear hA hb b2 hd
  by_cases h1 : mo < 1
  · have g1 : decide (mo < 1) = true := decide_eq_true h1
    clear hm
    go_enter Try.func27, Try.ntmps27
    go_wp2_with fail
    refine bodyPost_ret (v := .tuple #[.agg #[.slice none 0 0, .bool false, .string ⟨#[]⟩, .int .i64 0], .int .i64 1]) (by simp [results, Try.results27, go_sem, *]) rfl ⟨rfl, ?_⟩
    exact (((HB.out.1.setCell (p := ⟨_, 0, none⟩) HB.out.2 _).setCell (p := ⟨_, 1, none⟩) HB.out.2 _).setCell (p := ⟨_, 2, none⟩) HB.out.2 _).setCell (p := ⟨_, 3, none⟩) HB.out.2 _
  · have g1 : decide (mo < 1) = false := decide_eq_false h1
    have g2 : decide ((1000 : Int) < mo) = true := decide_eq_true (by omega)
    have g3 : (1000 : Int) < mo := by omega
    clear hm
    go_enter Try.func27, Try.ntmps27
    go_wp2_with fail
    refine bodyPost_ret (v := .tuple #[.agg #[.slice none 0 0, .bool false, .string ⟨#[]⟩, .int .i64 0], .int .i64 1]) (by simp [results, Try.results27, go_sem, *]) rfl ⟨rfl, ?_⟩
    exact (((HB.out.1.setCell (p := ⟨_, 0, none⟩) HB.out.2 _).setCell (p := ⟨_, 1, none⟩) HB.out.2 _).setCell (p := ⟨_, 2, none⟩) HB.out.2 _).setCell (p := ⟨_, 3, none⟩) HB.out.2 _

set_option maxRecDepth 100000 in
set_option maxHeartbeats 2000000 in
theorem robjects_wrap (a : Option Addr) (n c : Nat) (q : Aq) (w : World) (m : Bool) (k : ByteArray) (i x : Int) (Y : List En)
    (HC : ∀ W, Below w.heap.size w W → Calls Try.prog 27 #[.slice a n c, av q, .bool false] W fun r w' => ∃ v, r = .returned (.tuple #[anv v m k i, .int .i64 x]) ∧ EOwn w' W.heap.size v Y ∧ Below W.heap.size W w') :
    Calls Try.prog 13 #[.slice a n c, av q] w fun r w' => ∃ v, r = .returned (.tuple #[anv v m k i, .int .i64 x]) ∧ EOwn w' w.heap.size v Y ∧ Below w.heap.size w w' := by
  obtain ⟨pr, fr, fi, mo⟩ := q
  obtain ⟨W1, hbx, hA, hb⟩ := box_aq w 24 ⟨pr, fr, fi, mo⟩
  obtain ⟨W2, hb2⟩ : ∃ W2, W1.alloc (.cells #[.slice none 0 0, .bool false, .string ⟨#[]⟩, .int .i64 0] 34) = W2 := ⟨_, rfl⟩
  have b2 : Below W1.heap.size W1 W2 := by rw [← hb2]; exact bal _ _
  have hd : AB W2 W1.heap.size (.slice none 0 0) false ⟨#[]⟩ 0 := by rw [← hb2]; exact heap_alloc_new _ _
  obtain ⟨d0, d1, d2, d3⟩ := hA.keep b2
  have HB : Hid (Below w.heap.size w W2 ∧ w.heap.size ≤ W1.heap.size) := ⟨hop hb b2, hb.size⟩
  have HD : Hid (AB W2 W1.heap.size (.slice none 0 0) false ⟨#[]⟩ 0) := hd
  have hlt : W1.heap.size < W2.heap.size := hd.lt
  have hc := HC W2 HB.out.1
  unfold av anv at *
  dsimp only at *
  clear hA hb b2 hd HC
  obtain ⟨pb, hpb⟩ : ∃ pb, W1.heap.size = pb := ⟨_, rfl⟩
  rw [hpb] at HB HD hlt
  go_enter Try.func13, Try.ntmps13
  go_upto_region 1 with fail
  clear hpb
  go_wp2_with fail
  go_at_call 27
  refine hc.mono ?_
  rintro r w3 ⟨v, rfl, ho, k3⟩
  obtain ⟨a3, c3, e3, _, _, _, _⟩ := ho.es
  obtain ⟨n3, hn3⟩ : ∃ n3, Y.length = n3 := ⟨_, rfl⟩
  rw [hn3] at e3
  subst e3
  have HD3 := AB.keep HD.out k3 hlt
  obtain ⟨z0, z1, z2, z3, zf⟩ := HD3.cells
  have HO : Hid (EOwn w3 W2.heap.size (.slice a3 n3 c3) Y) := ho
  have HK : Hid (Below w.heap.size w w3) := hop HB.out.1 k3
  clear ho k3 hn3 HD3 d0 d1 d2 d3 hb2 hbx
  go_wp2_with fail
  refine bodyPost_ret (v := .tuple #[.agg #[.slice a3 n3 c3, .bool m, .string k, .int .i64 i], .int .i64 x]) (by simp [results, Try.results13, go_sem, *]) rfl ?_
  exact ⟨_, rfl, ((((HO.out.set hlt).set hlt).set hlt).set hlt).mono HB.out.1.size, (((HK.out.setCell (p := ⟨pb, 0, none⟩) HB.out.2 _).setCell (p := ⟨pb, 1, none⟩) HB.out.2 _).setCell (p := ⟨pb, 2, none⟩) HB.out.2 _).setCell (p := ⟨pb, 3, none⟩) HB.out.2 _⟩

set_option maxRecDepth 100000 in
set_option maxHeartbeats 2000000 in
theorem rversions_wrap (a : Option Addr) (n c : Nat) (q : Aq) (w : World) (m : Bool) (k : ByteArray) (i x : Int) (Y : List En)
    (HC : ∀ W, Below w.heap.size w W → Calls Try.prog 27 #[.slice a n c, av q, .bool true] W fun r w' => ∃ v, r = .returned (.tuple #[anv v m k i, .int .i64 x]) ∧ EOwn w' W.heap.size v Y ∧ Below W.heap.size W w') :
    Calls Try.prog 15 #[.slice a n c, av q] w fun r w' => ∃ v, r = .returned (.tuple #[anv v m k i, .int .i64 x]) ∧ EOwn w' w.heap.size v Y ∧ Below w.heap.size w w' := by
  obtain ⟨pr, fr, fi, mo⟩ := q
  obtain ⟨W1, hbx, hA, hb⟩ := box_aq w 24 ⟨pr, fr, fi, mo⟩
  obtain ⟨W2, hb2⟩ : ∃ W2, W1.alloc (.cells #[.slice none 0 0, .bool false, .string ⟨#[]⟩, .int .i64 0] 34) = W2 := ⟨_, rfl⟩
  have b2 : Below W1.heap.size W1 W2 := by rw [← hb2]; exact bal _ _
  have hd : AB W2 W1.heap.size (.slice none 0 0) false ⟨#[]⟩ 0 := by rw [← hb2]; exact heap_alloc_new _ _
  obtain ⟨d0, d1, d2, d3⟩ := hA.keep b2
  have HB : Hid (Below w.heap.size w W2 ∧ w.heap.size ≤ W1.heap.size) := ⟨hop hb b2, hb.size⟩
  have HD : Hid (AB W2 W1.heap.size (.slice none 0 0) false ⟨#[]⟩ 0) := hd
  have hlt : W1.heap.size < W2.heap.size := hd.lt
  have hc := HC W2 HB.out.1
  unfold av anv at *
  dsimp only at *
  clear hA hb b2 hd HC
  obtain ⟨pb, hpb⟩ : ∃ pb, W1.heap.size = pb := ⟨_, rfl⟩
  rw [hpb] at HB HD hlt
  go_enter Try.func15, Try.ntmps15
  go_upto_region 1 with fail
  clear hpb
  go_wp2_with fail
  go_at_call 27
  refine hc.mono ?_
  rintro r w3 ⟨v, rfl, ho, k3⟩
  obtain ⟨a3, c3, e3, _, _, _, _⟩ := ho.es
  obtain ⟨n3, hn3⟩ : ∃ n3, Y.length = n3 := ⟨_, rfl⟩
  rw [hn3] at e3
  subst e3
  have HD3 := AB.keep HD.out k3 hlt
  obtain ⟨z0, z1, z2, z3, zf⟩ := HD3.cells
  have HO : Hid (EOwn w3 W2.heap.size (.slice a3 n3 c3) Y) := ho
  have HK : Hid (Below w.heap.size w w3) := hop HB.out.1 k3
  clear ho k3 hn3 HD3 d0 d1 d2 d3 hb2 hbx
  go_wp2_with fail
  refine bodyPost_ret (v := .tuple #[.agg #[.slice a3 n3 c3, .bool m, .string k, .int .i64 i], .int .i64 x]) (by simp [results, Try.results15, go_sem, *]) rfl ?_
  exact ⟨_, rfl, ((((HO.out.set hlt).set hlt).set hlt).set hlt).mono HB.out.1.size, (((HK.out.setCell (p := ⟨pb, 0, none⟩) HB.out.2 _).setCell (p := ⟨pb, 1, none⟩) HB.out.2 _).setCell (p := ⟨pb, 2, none⟩) HB.out.2 _).setCell (p := ⟨pb, 3, none⟩) HB.out.2 _⟩
end Go.Proofs.Ytahnkkifegdjeaa
