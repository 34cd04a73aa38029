/-
  Same: have both disks the same files?
-/
import Derived.Test.YtebngmgdciahiaaGreatDoorArO
set_option maxRecDepth 100000
namespace Go.Proofs.YtebngmgdciahiaaGreatDoor
open Go.RowKit
open _root_.Go.Proofs.YtebngmgdciahiaaGreatDoor.Nm _root_.Go.Proofs.YtebngmgdciahiaaGreatDoor.Dk
attribute [local go_sem ↓] Go.wp_at_zero Go.wp_at_succ
set_option linter.unusedVariables false

theorem has_path {V : List Fv} (hr : Rise V) {x : ByteArray} {f : Fv} (hf : f ∈ V) (hp : f.path = x) : there x (V.map fl) = true ∧ fileL x (V.map fl) = fl f := by
  obtain ⟨A, M, B, P⟩ := part_at hr x
  have hM : f ∈ M := by
    rw [P.v] at hf
    rcases List.mem_append.1 hf with k | k
    · rcases List.mem_append.1 k with k | k
      · exact absurd hp (P.na f k)
      · exact k
    · exact absurd hp (P.nb f k)
  rcases P.m with ⟨_, e⟩ | ⟨t, f', e, _⟩
  · rw [e] at hM; cases hM
  · refine ⟨t, ?_⟩
    rw [e, List.mem_singleton] at hM
    subst hM
    unfold fileL
    rw [if_pos t, P.fileAt t, e]
    rfl
theorem of_path {w0 w : World} {p m : Nat} {q : Option Nat} {s : St} {z : Option Fz} (h : On w0 w p m q s z) {i : Nat} (hi : i < s.fs.length) : there s.fs[i].path s.fs = true ∧ fileL s.fs[i].path s.fs = s.fs[i] ∧ s.fs[i].path.size ≤ 600 := by
  obtain ⟨V, F, x⟩ := h.px
  have hm : s.fs[i] ∈ s.fs := List.getElem_mem hi
  obtain ⟨f9, hf9⟩ : ∃ f9, s.fs[i] = f9 := ⟨_, rfl⟩
  rw [hf9] at hm ⊢
  have h1 := x.wf.p _ hm
  rw [x.f] at hm ⊢
  obtain ⟨f, hf, e⟩ := List.mem_map.1 hm
  obtain ⟨k1, k2⟩ := has_path x.r hf (x := f9.path) (by rw [← e]; rfl)
  exact ⟨k1, k2.trans e, h1⟩
set_option maxHeartbeats 8000000 in
theorem same_any (w0 w : World) (O : Ot) (p m d : Nat) (q g : Option Nat) (s : St) (z : Option Fz) (h : Pr w0 w O p m d q g s s z z) :
    Calls Tryz.prog 40 #[.pointer (some ⟨p, 0, none⟩), .pointer (some ⟨d, 0, none⟩)] w fun e w' => e = .returned (.bool true) ∧ Below w.heap.size w w' := by
  have cF := on_files h.on
  have HP : Hid (Pr w0 w O p m d q g s s z z) := h
  have hl4 := on_len' h.on
  clear h
  go_enter Tryz.func40, Tryz.ntmps40
  go_wp2_with fail
  go_at_call 76
  refine cF.mono ?_
  rintro e y1 ⟨v1, M1, rfl, H1⟩
  clear cF
  obtain ⟨k1, k2, _, k4⟩ := H1.out
  have k2 : (M1.map fun y => y.s) = s.fs.map fun f => f.path := k2
  have hn1 : M1.length = s.fs.length := by have := congrArg List.length k2; simpa using this
  obtain ⟨a1, c1, rfl, hss⟩ := k1.ss
  have hP1 := HP.out.keep k4
  obtain ⟨a, c, L, hd, _⟩ := hP1.dx.dx
  have hL : L.length = s.fs.length := by rw [hd.f, List.length_map]
  obtain ⟨n, hn⟩ : ∃ n, s.fs.length = n := ⟨_, rfl⟩
  rw [hn] at hn1 hL hl4
  obtain ⟨U, hU⟩ : ∃ U, used s.fs = U := ⟨_, rfl⟩
  have hUb : U ≤ 1073741824 := by
    have := used_le hd.wf.b
    have := hd.wf.n
    omega
  have cA := fun k => on_used (hP1.keep (bdn' y1 k)).on
  have cB := fun k => used_any d a c L g s (y1.drewN k) (hd.drewN k)
  have cC := fun k => on_room (hP1.keep (bdn' y1 k)).on
  rw [hU] at cA cB cC
  have c0 := hd.c0
  have c2 := hd.c1
  obtain ⟨mo, hmo⟩ : ∃ mo, s.most = mo := ⟨_, rfl⟩
  have hm0 := hd.wf.m0
  have hm1 := hd.wf.m1
  rw [hmo] at cC c2 hm0 hm1
  have wz : IntKind.i64.wrap (mo - (U : Int)) = mo - (U : Int) := by rw [IntKind.wrap_i64]; omega
  have wz2 : IntKind.i64.wrap (mo + -(U : Int)) = mo - (U : Int) := by rw [IntKind.wrap_i64]; omega
  rw [hL] at c0
  rw [hn1]
  have HD : Hid (DX y1 d a c L g s) := hd
  have HS : Hid (Ss y1 a1 M1) := hss
  have HM : Hid ((M1.map fun y => y.s) = s.fs.map fun f => f.path) := k2
  have HP1 : Hid (Pr w0 y1 O p m d q g s s z z) := hP1
  have HN : Hid (s.fs.length = n ∧ L.length = n ∧ M1.length = n) := ⟨hn, hL, hn1⟩
  have HB1 : Hid (Below w.heap.size w y1) := k4
  clear H1 k1 k2 k4 hss hP1 hd hL hn hU hmo hn1
  go_wp2_with fail
  go_quiet (first
    | (go_at_call 77; refine (cA _).mono ?_; rintro e w9 ⟨rfl, rfl⟩; exact ⟨rfl, _, rfl⟩)
    | (go_at_call 58; refine (cB _).mono ?_; rintro e w9 ⟨rfl, rfl⟩; exact ⟨rfl, _, rfl⟩)
    | (go_at_call 78; refine (cC _).mono ?_; rintro e w9 ⟨rfl, k9, rfl⟩; exact ⟨rfl, _, drewN_two _ _ _⟩))
  have HBQ : Hid (Below y1.heap.size y1 (y1.drewN nq)) := bdn' _ _
  clear cA cB cC c0 c2 wz wz2
  generalize y1.drewN nq = y2 at *
  go_wp2_with fail
  go_loopw [6] (fun i wr => ∃ i0 : Nat, i0 ≤ n ∧ i = .int .i64 i0 ∧ Below y1.heap.size y1 wr) (fun i _ => n - (intOf i).toNat)
  case atStart => exact ⟨0, Nat.zero_le _, rfl, HBQ.out⟩
  case round =>
    obtain ⟨i0, hi0, rfl, hbel⟩ := hrel
    have HBE : Hid (Below y1.heap.size y1 wr) := hbel
    clear hbel
    by_cases hlt : i0 < n
    · have ij : (i0 : Int) < (n : Int) := by omega
      have hP := HP1.out.keep HBE.out
      have hd := HD.out.keep HBE.out
      have hi1 : i0 < s.fs.length := by rw [HN.out.1]; exact hlt
      have hiL : i0 < L.length := by rw [HN.out.2.1]; exact hlt
      have hiM : i0 < M1.length := by rw [HN.out.2.2]; exact hlt
      obtain ⟨f1, f2, f3⟩ := of_path hP.on hi1
      have hfl : s.fs[i0] = fl L[i0]! := by
        have h9 := congrArg (fun l => l[i0]?) hd.f
        simp only [List.getElem?_map] at h9
        rw [List.getElem?_eq_getElem hi1, List.getElem?_eq_getElem hiL] at h9
        rw [getElem!_pos L i0 hiL]
        simpa using h9
      have hmp : M1[i0]!.s = s.fs[i0].path := by
        have h9 := congrArg (fun l => l[i0]?) HM.out
        simp only [List.getElem?_map] at h9
        rw [List.getElem?_eq_getElem hi1, List.getElem?_eq_getElem hiM] at h9
        rw [getElem!_pos M1 i0 hiM]
        simpa using h9
      rw [hfl] at f1 f2 f3 hmp
      obtain ⟨b1, o1, rfl, hA1⟩ := (HS.out.keep HBE.out) (by omega)
      have t1 := (hA1 i0 hiM).c0
      rw [Nat.mul_one, hmp] at t1
      obtain ⟨hf, _, hlc, _⟩ := hd.rows
      obtain ⟨bb, oo, rfl, hA⟩ := hf (by omega)
      have HFA : Hid (∀ W, Below wr.heap.size wr W → DX W d (some ⟨bb, oo, none⟩) c L g s ∧ FAt W bb (oo + i0 * 3) L[i0]! ∧ W.cell? ⟨b1, o1 + i0, none⟩ = some (.string (fl L[i0]!).path)) := fun W hb => by
        have hdW := hd.keep hb
        obtain ⟨hf, _, _, _⟩ := hdW.rows
        obtain ⟨bb', oo', e, hA⟩ := hf (by omega)
        injection e with e
        injection e with e1 e2 _
        subst e1; subst e2
        exact ⟨hdW, hA i0 hiL, (hb.cell (p := ⟨b1, o1 + i0, none⟩) (block_lt_of_cell t1)).trans t1⟩
      have cL := on_look hP.on (x := (fl L[i0]!).path) (by unfold maxLen; omega)
      rw [f1, f2] at cL
      have HHL : Hid (i0 < L.length ∧ L.length = n) := ⟨hiL, HN.out.2.1⟩
      obtain ⟨y0, hy0⟩ : ∃ y0, L[i0]! = y0 := ⟨_, rfl⟩
      rw [hy0] at cL HFA t1
      have HY0 : Hid (L[i0]! = y0) := hy0
      obtain ⟨yp, ⟨ya, yn, yc⟩, ys, yb⟩ := y0
      change Calls Tryz.prog 25 #[.pointer (some ⟨p, 0, none⟩), .string yp] wr fun e w' => ∃ a n c, e = .returned (.tuple #[.slice a n c, .bool ys, .bool true]) ∧ Hid (Inp w' a n c yb ∧ On w0 w' p m q s z ∧ Below wr.heap.size wr w') at cL
      change wr.cell? ⟨b1, o1 + i0, none⟩ = some (.string yp) at t1
      clear hP hd hi1 hiL hiM f1 f2 f3 hfl hmp hA1 hf hlc hA hy0
      go_wp2_with fail
      go_at_call 25
      refine cL.mono ?_
      rintro e w5 ⟨la, ln, lc, rfl, H5⟩
      clear cL t1
      obtain ⟨i5, o5, b5⟩ := H5.out
      obtain ⟨hd5, hA5, t1⟩ := HFA.out w5 b5
      change w5.cell? ⟨b1, o1 + i0, none⟩ = some (.string yp) at t1
      have c0 := hd5.c0
      rw [HHL.out.2] at c0
      have k0 := hA5.c0
      have k1 := hA5.c1
      have k2 := hA5.c2
      dsimp only at k0 k1 k2
      have hdt := hd5.data HHL.out.1
      rw [HY0.out] at hdt
      obtain ⟨hyb, hyn, f, hf8, hown, hstr⟩ := hdt
      dsimp only at hyn hown hstr hyb
      have hyn' : yb.size = yn := hyn.symm
      rw [hyn'] at hyb hown hstr
      obtain ⟨hrow, hync, hyz⟩ := own_open hown hf8
      have hin : Inp w5 ya yn yc yb := ⟨⟨f, hf8, hrow, hstr⟩, hyn, hyz⟩
      have cv1 := fun n => (i5.keep (bdn' w5 n)).conv
      have cv2 := fun n => (hin.keep (bdn' w5 n)).conv
      have HBE5 : Hid (Below y1.heap.size y1 w5) := HBE.out.trans (b5.mono HBE.out.size)
      clear H5 i5 o5 b5 hd5 hA5 hyb hyn hf8 hown hstr hyn' hrow hync hyz hin HBE
      go_wp2_with fail
      go_quiet (fail)
      go_wp2
      go_round
      case rel => exact ⟨i0 + 1, by omega, by go_num, HBE5.out.trans ((bdn' _ _).mono HBE5.out.size)⟩
      case measure => simp [intOf]; omega
    · have hjn : i0 = n := by omega
      subst hjn
      have ij : decide ((i0 : Int) < (i0 : Int)) = false := by simp
      have HB : Hid (Below w.heap.size w wr) := HB1.out.trans (HBE.out.mono HB1.out.size)
      clear hlt
      go_wp2
      go_ret
      exact ⟨rfl, HB.out⟩
end Go.Proofs.YtebngmgdciahiaaGreatDoor
