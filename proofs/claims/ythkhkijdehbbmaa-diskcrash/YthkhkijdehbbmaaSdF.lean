/-
  Both: a deed on both disks: Read and List; whichever it is of the seven.
-/
import Derived.Test.YthkhkijdehbbmaaSdE
set_option maxRecDepth 100000
namespace Go.Proofs.Ythkhkijdehbbmaa
open Go.RowKit
open _root_.Go.Proofs.Ythkhkijdehbbmaa.Nm _root_.Go.Proofs.Ythkhkijdehbbmaa.Dk
attribute [local go_sem ↓] Go.wp_at_zero Go.wp_at_succ
set_option linter.unusedVariables false

set_option maxHeartbeats 8000000 in
theorem both0 (w0 w : World) (p m d : Nat) (q g : Option Nat) (s : St) (z : Option Fz) (fv : Value) (n : Int) (x y : ByteArray) (va : Option Addr) (vn vc : Nat) (h : On w0 w p m q s z) (hd : Dx w0 w d g s z) (hb : Zb z) (hx : x.size ≤ maxLen) :
    Calls Try.prog 26 #[.pointer (some ⟨p, 0, none⟩), fv, .pointer (some ⟨d, 0, none⟩), .agg #[.int .i64 0, .int .i64 n, .string x, .string y, .slice va vn vc]] w (BothEnd w0 p m d q g s z) := by
  obtain ⟨W, hW⟩ : ∃ W, w.alloc (.cells #[.int .i64 0, .int .i64 n, .string x, .string y, .slice va vn vc] 54) = W := ⟨_, rfl⟩
  have bW : Below w.heap.size w W := by rw [← hW]; exact bal _ _
  have hB : Bx w0 W p m d q g s s z z w.heap.size (dObj 0 n x y va vn vc) := ⟨h.keep bW, hd.keep bW, by rw [← hW]; exact heap_alloc_new _ _⟩
  have hz1 : (askZ z s [x]).2.1 = tickO z := ask_z s _
  obtain ⟨s2, hs2⟩ : ∃ s2, (askZ z s [x]).2.2 = s2 := ⟨_, rfl⟩
  have hn : Nx s s2 := by rw [← hs2]; exact nx_ask z s [x]
  obtain ⟨R, hR⟩ : ∃ R, readZ z s x = R := ⟨_, rfl⟩
  obtain ⟨rb, re⟩ := R
  have k1 := on_read hB.on hb hx
  rw [hz1, hs2, hR] at k1
  have K : Hid (Calls Try.prog 15 #[.pointer (some ⟨p, 0, none⟩), .string x] W fun e w' => ∃ a n' c, e = .returned (.tuple #[.slice a n' c, .int .i64 re]) ∧ dC w' w.heap.size x y va vn vc ∧ Hid (Calls Try.prog 39 #[.pointer (some ⟨d, 0, none⟩), .string x] w' fun e w'' => ∃ a2 n2 c2, e = .returned (.tuple #[.slice a2 n2 c2, .int .i64 re]) ∧ Hid (Inp w'' a n' c rb ∧ Inp w'' a2 n2 c2 rb ∧ On w0 w'' p m q s2 (tickO z) ∧ Dx w0 w'' d g s2 (tickO z) ∧ Nx s s2))) := by
    refine k1.mono ?_
    rintro e w' ⟨a, n', c, rfl, j0, j1, j2⟩
    have h1 := hB.prog j1 j2
    refine ⟨a, n', c, rfl, dC_of h1.o, ?_⟩
    have k2 := dx_read h1.dx hb hx
    rw [hz1, hs2, hR] at k2
    refine k2.mono ?_
    rintro e w'' ⟨a2, n2, c2, rfl, l0, l1, l2, l3⟩
    exact ⟨a2, n2, c2, rfl, l3 _ _ _ _ j0, l0, h1.on.doc l2, l1, hn⟩
  have HW : Hid (w.alloc (.cells #[.int .i64 0, .int .i64 n, .string x, .string y, .slice va vn vc] 54) = W) := hW
  clear k1 hz1 hs2 hn hR hB bW h hd hb hx
  clear hW
  go_enter Try.func26, Try.ntmps26
  go_wp2_with fail
  rw [HW.out]
  obtain ⟨bx, hbx⟩ : ∃ bx, w.heap.size = bx := ⟨_, rfl⟩
  rw [hbx] at K ⊢
  clear HW hbx
  go_at_call 15
  refine K.out.mono ?_
  rintro e w5 ⟨a, n', c, rfl, ⟨p2, p3, p4⟩, HK⟩
  clear K
  go_wp2_with fail
  go_at_call 39
  refine HK.out.mono ?_
  rintro e w6 ⟨a2, n2, c2, rfl, HE⟩
  have cv1 := HE.out.1.conv
  have cv2 := HE.out.2.1.conv
  have HE2 : Hid (On w0 w6 p m q s2 (tickO z) ∧ Dx w0 w6 d g s2 (tickO z) ∧ Nx s s2) := HE.out.2.2
  clear HK HE p2 p3 p4
  go_wp2
  go_ret
  exact ⟨rfl, _, HE2.out⟩
theorem lis_len (z : Option Fz) (s : St) (x : ByteArray) : (lisZ z s x).1.length ≤ s.fs.length := by
  unfold lisZ
  split
  · exact Nat.zero_le _
  · unfold lst
    rw [List.length_map]
    exact List.length_filter_le _ _
theorem on_len {w0 w : World} {p m : Nat} {q : Option Nat} {s : St} {z : Option Fz} (h : On w0 w p m q s z) : s.fs.length ≤ 4096 := by
  obtain ⟨V, F, x⟩ := h.px
  exact x.wf.n
set_option maxHeartbeats 8000000 in
theorem both6 (w0 w : World) (p m d : Nat) (q g : Option Nat) (s : St) (z : Option Fz) (fv : Value) (n : Int) (x y : ByteArray) (va : Option Addr) (vn vc : Nat) (h : On w0 w p m q s z) (hd : Dx w0 w d g s z) (hb : Zb z) (hx : x.size ≤ maxLen) :
    Calls Try.prog 26 #[.pointer (some ⟨p, 0, none⟩), fv, .pointer (some ⟨d, 0, none⟩), .agg #[.int .i64 6, .int .i64 n, .string x, .string y, .slice va vn vc]] w (BothEnd w0 p m d q g s z) := by
  obtain ⟨W, hW⟩ : ∃ W, w.alloc (.cells #[.int .i64 6, .int .i64 n, .string x, .string y, .slice va vn vc] 54) = W := ⟨_, rfl⟩
  have bW : Below w.heap.size w W := by rw [← hW]; exact bal _ _
  have hB : Bx w0 W p m d q g s s z z w.heap.size (dObj 6 n x y va vn vc) := ⟨h.keep bW, hd.keep bW, by rw [← hW]; exact heap_alloc_new _ _⟩
  have hz1 : (askZ z s []).2.1 = tickO z := ask_z s _
  obtain ⟨s2, hs2⟩ : ∃ s2, (askZ z s []).2.2 = s2 := ⟨_, rfl⟩
  have hn : Nx s s2 := by rw [← hs2]; exact nx_ask z s []
  have hln := lis_len z s x
  have hl4 := on_len h
  obtain ⟨R, hR⟩ : ∃ R, lisZ z s x = R := ⟨_, rfl⟩
  rw [hR] at hln
  obtain ⟨rl, re⟩ := R
  have k1 := on_list hB.on hb hx
  rw [hz1, hs2, hR] at k1
  have K : Hid (Calls Try.prog 20 #[.pointer (some ⟨p, 0, none⟩), .string x] W fun e w' => ∃ (a : Option Addr) (c : Nat) (M : List Sv), e = .returned (.tuple #[.slice a M.length c, .int .i64 re]) ∧ dC w' w.heap.size x y va vn vc ∧ Hid (Calls Try.prog 44 #[.pointer (some ⟨d, 0, none⟩), .string x] w' fun e w'' => ∃ (a2 : Option Addr) (c2 : Nat) (M2 : List Sv), e = .returned (.tuple #[.slice a2 M2.length c2, .int .i64 re]) ∧ Hid (Calls Try.prog 30 #[.slice a M.length c, .slice a2 M2.length c2] w'' fun e w3 => e = .returned (.bool true) ∧ Hid (On w0 w3 p m q s2 (tickO z) ∧ Dx w0 w3 d g s2 (tickO z) ∧ Nx s s2)))) := by
    refine k1.mono ?_
    rintro e w' ⟨v, M, rfl, j0, j9, j1, j2⟩
    have h1 := hB.prog j1 j2
    obtain ⟨a, c, rfl, _⟩ := j0.ss
    refine ⟨a, c, M, rfl, dC_of h1.o, ?_⟩
    have k2 := dx_list h1.dx hb hx
    rw [hz1, hs2, hR] at k2
    refine k2.mono ?_
    rintro e w'' ⟨v2, M2, rfl, l0, l9, l1, l2⟩
    obtain ⟨a2, c2, rfl, hs2'⟩ := l0.ss
    refine ⟨a2, c2, M2, rfl, ?_⟩
    obtain ⟨a', c', e', hs1'⟩ := (l2.sown j0).ss
    injection e' with e1 _ e3
    subst e1; subst e3
    have m1 : M.length = rl.length := by have := congrArg List.length j9; simpa using this
    have m2 : M2.length = rl.length := by have := congrArg List.length l9; simpa using this
    have m3 : rl.length ≤ s.fs.length := hln
    refine (texts_any a c M a2 c2 M2 w'' hs1' hs2' (by omega) (by omega)).mono ?_
    rintro e w3 ⟨rfl, nd, rfl⟩
    refine ⟨?_, (h1.on.doc l2).keep (bdn' _ _), l1.keep (bdn' _ _), hn⟩
    rw [j9, l9]
    simp
  have HW : Hid (w.alloc (.cells #[.int .i64 6, .int .i64 n, .string x, .string y, .slice va vn vc] 54) = W) := hW
  clear k1 hz1 hs2 hn hR hB bW h hd hb hx hln hl4
  clear hW
  go_enter Try.func26, Try.ntmps26
  go_wp2_with fail
  rw [HW.out]
  obtain ⟨bx, hbx⟩ : ∃ bx, w.heap.size = bx := ⟨_, rfl⟩
  rw [hbx] at K ⊢
  clear HW hbx
  go_at_call 20
  refine K.out.mono ?_
  rintro e w5 ⟨a, c, M, rfl, ⟨p2, p3, p4⟩, HK⟩
  clear K
  obtain ⟨ml, hml⟩ : ∃ ml, M.length = ml := ⟨_, rfl⟩
  rw [hml] at HK ⊢
  clear hml
  go_wp2_with fail
  go_at_call 44
  refine HK.out.mono ?_
  rintro e w6 ⟨a2, c2, M2, rfl, HT⟩
  obtain ⟨ml2, hml⟩ : ∃ ml2, M2.length = ml2 := ⟨_, rfl⟩
  rw [hml] at HT ⊢
  clear HK hml p2 p3 p4
  go_wp2_with fail
  go_at_call 30
  refine HT.out.mono ?_
  rintro e w7 ⟨rfl, HE⟩
  clear HT
  go_wp2
  go_ret
  exact ⟨rfl, _, HE.out⟩
/-- Whichever of the seven. -/
theorem both_any (w0 w : World) (p m d : Nat) (q g : Option Nat) (s : St) (z : Option Fz) (fv : Value) (dv n : Int) (x y : ByteArray) (va : Option Addr) (vn vc : Nat) (b : ByteArray) (h : On w0 w p m q s z) (hd : Dx w0 w d g s z) (hb : Zb z) (hx : x.size ≤ maxLen) (hy : y.size ≤ maxLen) (hi : Inp w0 va vn vc b) (hvn : vn ≤ maxLen) (h0 : 0 ≤ dv) (h6 : dv ≤ 6) :
    Calls Try.prog 26 #[.pointer (some ⟨p, 0, none⟩), fv, .pointer (some ⟨d, 0, none⟩), .agg #[.int .i64 dv, .int .i64 n, .string x, .string y, .slice va vn vc]] w (BothEnd w0 p m d q g s z) := by
  have : dv = 0 ∨ dv = 1 ∨ dv = 2 ∨ dv = 3 ∨ dv = 4 ∨ dv = 5 ∨ dv = 6 := by omega
  rcases this with rfl | rfl | rfl | rfl | rfl | rfl | rfl
  · exact both0 w0 w p m d q g s z fv n x y va vn vc h hd hb hx
  · exact both1 w0 w p m d q g s z fv n x y va vn vc b h hd hb hx hy hi hvn
  · exact both2 w0 w p m d q g s z fv n x y va vn vc b h hd hb hx hy hi hvn
  · exact both3 w0 w p m d q g s z fv n x y va vn vc b h hd hb hx hy hi hvn
  · exact both4 w0 w p m d q g s z fv n x y va vn vc b h hd hb hx hy hi hvn
  · exact both5 w0 w p m d q g s z fv n x y va vn vc b h hd hb hx hy hi hvn
  · exact both6 w0 w p m d q g s z fv n x y va vn vc h hd hb hx
end Go.Proofs.Ythkhkijdehbbmaa
