/-
  List of a disk of the document.
-/
import Derived.Test.YthkhkijdehbbmaaDkE
import Derived.Test.YthkhkijdehbbmaaDkS
set_option maxRecDepth 100000
namespace Go.Proofs.Ythkhkijdehbbmaa
open Go.RowKit Dk Nm
attribute [local go_sem ↓] Go.wp_at_zero Go.wp_at_succ
set_option linter.unusedVariables false

/-- The paths that begin with x. -/
def lst (x : ByteArray) (l : List Fl) : List ByteArray := (l.filter fun f => pre (tx f.path) (tx x)).map fun f => f.path
theorem lst_take {x : ByteArray} {L : List Fv} {j : Nat} (hj : j < L.length) : lst x ((L.take (j + 1)).map fl) = lst x ((L.take j).map fl) ++ (if pre (tx L[j]!.path) (tx x) = true then [L[j]!.path] else []) := by
  unfold lst
  rw [← List.take_append_getElem hj, List.map_append, List.filter_append, List.map_append, getElem!_pos L j hj]
  congr 1
  show List.map _ (List.filter _ [fl L[j]]) = _
  rw [List.filter_cons]
  show List.map _ (if pre (tx L[j].path) (tx x) = true then _ else _) = _
  split <;> rfl
theorem sown_grown {w W : World} {base p : Nat} {v : Value} {M : List Sv} {cs : Array Value} {ty : TypeId} (o : SOwn w base v M) (g : w.grownBy W v.ownBlock) (ht : ty ≠ 9) (h : w.heap[p]? = some (.cells cs ty (0, 0))) : W.heap[p]? = some (.cells cs ty (0, 0)) :=
  (g.block p (Array.getElem?_eq_some_iff.1 h).1 (fun e => by
    rcases o.2 with ⟨rfl, _⟩ | ⟨q, cap, cur, rfl, _, hg, _⟩
    · simp [Value.ownBlock] at e
    · simp [Value.ownBlock] at e
      subst e
      rw [h] at hg
      injection hg with hg
      injection hg with _ hg _
      exact ht hg)).trans h
/-- What List answers. -/
def lisZ (z : Option Fz) (s : St) (x : ByteArray) : List ByteArray × Int := if (askZ z s []).1 ≠ 0 then ([], (askZ z s []).1) else (lst x s.fs, 0)
def ListEnd (p : Nat) (a : Option Addr) (c : Nat) (L : List Fv) (q : Option Nat) (Y : List ByteArray × Int) (s1 : St) (z1 : Option Fz) (w : World) (e : Ending) (w' : World) : Prop :=
  ∃ v M, e = .returned (.tuple #[v, .int .i64 Y.2]) ∧ SOwn w' w.heap.size v M ∧ (M.map fun y => y.s) = Y.1 ∧ DX w' p a c L q s1 ∧ Zs w' q z1 ∧ Upd (Mk p q) w w'

set_option maxRecDepth 100000 in
set_option maxHeartbeats 4000000 in
theorem list_any (p : Nat) (a : Option Addr) (c : Nat) (L : List Fv) (q : Option Nat) (s : St) (z : Option Fz) (x : ByteArray) (w : World) (h : DX w p a c L q s) (hz : Zs w q z) (hb : Zb z) (hx : x.size ≤ maxLen) :
    Calls Try.prog 44 #[.pointer (some ⟨p, 0, none⟩), .string x] w (ListEnd p a c L q (lisZ z s x) (askZ z s []).2.2 (askZ z s []).2.1 w) := by
  have cA := ask_any p a c L q s z none 0 [] w h hz hb (fun h0 => absurd h0 (by decide)) (by decide)
  have hfs := askZ_fs z s []
  have hdl : lisZ z s x = lisZ z s x := rfl
  conv at hdl => rhs; unfold lisZ
  obtain ⟨e0, he0⟩ : ∃ e0, (askZ z s []).1 = e0 := ⟨_, rfl⟩
  obtain ⟨s1, hs1⟩ : ∃ s1, (askZ z s []).2.2 = s1 := ⟨_, rfl⟩
  obtain ⟨z1, hz1⟩ : ∃ z1, (askZ z s []).2.1 = z1 := ⟨_, rfl⟩
  rw [he0] at hdl
  rw [hs1] at hfs
  rw [hs1, hz1]
  obtain ⟨Y, hY⟩ : ∃ y, lisZ z s x = y := ⟨_, rfl⟩
  rw [hY] at hdl ⊢
  have HY : Hid (Y = if e0 ≠ 0 then ([], e0) else (lst x s.fs, 0)) := hdl
  have cA1 : Calls Try.prog 56 #[.pointer (some ⟨p, 0, none⟩), .slice none 0 0] w fun e w' => e = .returned (.int .i64 e0) ∧ DX w' p a c L q s1 ∧ Zs w' q z1 ∧ Upd (Mk p q) w w' := by
    refine cA.mono ?_
    rintro e w' ⟨h1, h2, h3, h4⟩
    rw [he0] at h1
    rw [hs1] at h2
    rw [hz1] at h3
    exact ⟨h1, h2, h3, h4⟩
  have HF : Hid (s1.fs = s.fs) := hfs
  have HT : Hid (∀ e w', (∃ v M, e = .returned (.tuple #[v, .int .i64 Y.2]) ∧ SOwn w' w.heap.size v M ∧ (M.map fun y => y.s) = Y.1 ∧ DX w' p a c L q s1 ∧ Zs w' q z1 ∧ Upd (Mk p q) w w') → ListEnd p a c L q Y s1 z1 w e w') := fun e w' h1 => h1
  generalize hPP : ListEnd p a c L q Y s1 z1 w = PP at *
  clear hPP h hz hb cA he0 hfs hs1 hz1 hdl hY
  go_enter Try.func44, Try.ntmps44
  go_wp2_with fail
  go_at_call 56
  refine cA1.mono ?_
  rintro e w1 ⟨rfl, h1, hz1, u1⟩
  clear cA1
  have HZ1 : Hid (Zs w1 q z1) := hz1
  have HU1 : Hid (Upd (Mk p q) w w1) := u1
  have HD1 : Hid (DX w1 p a c L q s1) := h1
  have hn := h1.n
  clear hz1 u1 h1
  by_cases g0 : e0 = 0
  · subst g0
    have HE : Hid (Y = (lst x (L.map fl), 0)) := by unfold Hid; rw [HY.out, if_neg (fun k => k rfl), ← HF.out, HD1.out.f]
    have c0 := HD1.out.c0
    go_wp2_with fail
    go_loopw [7, 8] (fun u i wr => ∃ (j : Nat) (M : List Sv), j ≤ L.length ∧ i = .int .i64 j ∧ SOwn wr w1.heap.size u M ∧ (M.map fun y => y.s) = lst x ((L.take j).map fl) ∧ M.length ≤ j ∧ Below w1.heap.size w1 wr) (fun _ i _ => L.length - (intOf i).toNat)
    case atStart => exact ⟨0, [], by omega, rfl, SOwn.start _ _, rfl, Nat.le_refl _, Below.refl _ _⟩
    case round =>
      obtain ⟨j, M, hj, rfl, hS, hM, hMl, hB⟩ := hrel
      have hD := HD1.out.keep hB
      clear c0
      have c0 := hD.c0
      by_cases hlt : j < L.length
      · have ij : (j : Int) < (L.length : Int) := by omega
        obtain ⟨hf, _, hlc, _⟩ := hD.rows
        obtain ⟨b, o, rfl, hA⟩ := hf (by omega)
        have t0 := (hA j hlt).c0
        have hs := hD.path hlt
        have ht := lst_take (x := x) hlt
        obtain ⟨y, hy⟩ : ∃ y, L[j]!.path = y := ⟨_, rfl⟩
        rw [hy] at t0 hs ht
        have cP := fun w => rprefix_any y x w (by unfold maxLen; omega) hx
        have HM : Hid ((M.map fun y => y.s) = lst x ((L.take j).map fl)) := hM
        have HB : Hid (Below w1.heap.size w1 wr) := hB
        cases hp : pre (tx y) (tx x) with
        | false =>
          rw [hp] at cP ht
          have HTK : Hid (lst x ((L.take (j + 1)).map fl) = lst x ((L.take j).map fl)) := by unfold Hid; rw [ht, if_neg (by decide), List.append_nil]
          have HSS : Hid (SOwn wr w1.heap.size u7 M) := hS
          clear hA hf hM hB hS ht hy hp hD hlc
          go_wp2_with fail
          go_at_call 59
          refine (cP _).mono ?_
          rintro e w2 ⟨rfl, rfl⟩
          clear cP
          go_wp2
          go_round
          case rel => exact ⟨j + 1, M, by omega, by go_num, HSS.out, by rw [HTK.out]; exact HM.out, by omega, HB.out⟩
          case measure => simp [intOf]; omega
        | true =>
          rw [hp] at cP ht
          have HTK : Hid (lst x ((L.take (j + 1)).map fl) = lst x ((L.take j).map fl) ++ [y]) := by unfold Hid; rw [ht, if_pos rfl]
          obtain ⟨E, hE⟩ : ∃ E, wr.alloc (.cells #[.string y] 9) = E := ⟨_, rfl⟩
          have bE : Below wr.heap.size wr E := by rw [← hE]; exact (Below.refl _ _).alloc (Nat.le_refl _) _
          have lE : Ss E (some ⟨wr.heap.size, 0, none⟩) [⟨y⟩] := by rw [← hE]; exact litS wr ⟨y⟩
          obtain ⟨v', R, r1, o1, g1, b1⟩ := appendS (c := 1) (hS.keep bE) lE (fun e => by cases e) (by simp; omega) (Nat.le_trans hB.size bE.size)
          have HR : Hid (Sem.run Try.prog (Builtin.append_ #[36, 36] 36 #[u7, .slice (some ⟨wr.heap.size, 0, none⟩) 1 1]) E = .ok v' R) := r1
          have HO : Hid (SOwn R w1.heap.size v' (M ++ [⟨y⟩])) := o1
          have HBR : Hid (Below w1.heap.size w1 R) := (hB.trans (bE.mono hB.size)).trans b1
          clear hA hf hM hB hS ht hy hp hD hlc bE lE r1 o1 g1 b1
          go_wp2_with fail
          go_at_call 59
          refine (cP _).mono ?_
          rintro e w2 ⟨rfl, rfl⟩
          clear cP
          go_wp2_with (at_builtin; refine wpList_append_ran (by rfl) _ _ 36 (by rfl) _ _ _ _ (by rfl) (by rfl) HR.out ?_)
          go_round
          case rel => exact ⟨j + 1, M ++ [⟨y⟩], by omega, by go_num, HO.out, by rw [HTK.out, List.map_append, HM.out]; rfl, by simp; omega, HBR.out⟩
          case measure => simp [intOf]; omega
      · have hjn : j = L.length := by omega
        subst hjn
        have ij : decide ((L.length : Int) < (L.length : Int)) = false := by simp
        rw [List.take_length] at hM
        have HN : Hid (∃ v M, Ending.returned (.tuple #[u7, .int .i64 0]) = .returned (.tuple #[v, .int .i64 Y.2]) ∧ SOwn wr w.heap.size v M ∧ (M.map fun y => y.s) = Y.1 ∧ DX wr p a c L q s1 ∧ Zs wr q z1 ∧ Upd (Mk p q) w wr) := by
          refine ⟨u7, M, by rw [HE.out], hS.mono HU1.out.size, by rw [HE.out]; exact hM, hD, HZ1.out.keep hB, HU1.out.after hB⟩
        clear hM hS hD hlt hB
        go_wp2
        exact HT.out _ _ HN.out
  · have g1 : (e0 == 0) = false := by simpa using g0
    have HE : Hid (Y = ([], e0)) := by unfold Hid; rw [HY.out, if_pos g0]
    go_wp2
    exact HT.out _ _ ⟨_, [], by rw [HE.out] <;> rfl, SOwn.start _ _, by rw [HE.out]; rfl, HD1.out, HZ1.out, HU1.out⟩
end Go.Proofs.Ythkhkijdehbbmaa
