/-
  What a disk of the document asks ahead of an operation.
-/
import Derived.Test.YthkhkijdehbbmaaDkA
import Derived.StillTailTactics
import Derived.BigRegion
set_option maxRecDepth 100000
namespace Go.Proofs.Ythkhkijdehbbmaa
open Go.RowKit Dk Nm
attribute [local go_sem ↓] Go.wp_at_zero Go.wp_at_succ
set_option linter.unusedVariables false

/-- The fuse, if there is one. -/
def Zs (w : World) (q : Option Nat) (z : Option Fz) : Prop := match q, z with
  | none, none => True
  | some k, some z => w.heap[k]? = some (.cells #[.int .i64 z.n, .int .i64 z.done, .bool z.blown] 49)
  | _, _ => False
/-- A row of texts. -/
def Strs (w : World) (a : Option Addr) (ps : List ByteArray) : Prop := 0 < ps.length → ∃ b o, a = some ⟨b, o, none⟩ ∧ ∀ i, i < ps.length → w.cell? ⟨b, o + i, none⟩ = some (.string ps[i]!)
/-- The blocks that an operation of the disk at p may write. -/
def Mk (p : Nat) (q : Option Nat) : Nat → Prop := fun k => k = p ∨ q = some k
/-- No such block holds files or bytes. -/
theorem mk_types {w : World} {p : Nat} {a : Option Addr} {c : Nat} {L : List Fv} {q : Option Nat} {s : St} {z : Option Fz} (h : DX w p a c L q s) (hz : Zs w q z) {k : Nat} (hk : Mk p q k) {cur : Array Value} {T : TypeId} (e : w.heap[k]? = some (.cells cur T (0, 0))) : T ≠ 95 ∧ T ≠ 5 := by
  rcases hk with rfl | hk
  · rw [h.o] at e
    injection e with e
    injection e with _ e _
    subst e; decide
  · subst hk
    cases z with
    | none => exact absurd hz (by unfold Zs; exact id)
    | some z =>
      unfold Zs at hz
      rw [hz] at e
      injection e with e
      injection e with _ e _
      subst e; decide
theorem p_types {w : World} {p : Nat} {a : Option Addr} {c : Nat} {L : List Fv} {q : Option Nat} {s : St} (h : DX w p a c L q s) {k : Nat} (hk : Mk p none k) {cur : Array Value} {T : TypeId} (e : w.heap[k]? = some (.cells cur T (0, 0))) : T ≠ 95 ∧ T ≠ 5 := by
  rcases hk with rfl | hk
  · rw [h.o] at e
    injection e with e
    injection e with _ e _
    subst e; decide
  · cases hk
theorem Zs.upd {w w' : World} {p k : Nat} {z : Option Fz} (h : Zs w (some k) z) (u : Upd (Mk p none) w w') (hp : p ≠ k) : Zs w' (some k) z := by
  cases z with
  | none => exact h
  | some z =>
    unfold Zs at *
    dsimp only at *
    rw [u.block k (Array.getElem?_eq_some_iff.1 h).1 (fun e => by rcases e with e | e; exact hp e.symm; cases e)]
    exact h
theorem BO.upd {M : Nat → Prop} {w w' : World} {x : Fv} (h : BO w x) (u : Upd M w w') (hm : ∀ g cur, w.heap[g]? = some (.cells cur 5 (0, 0)) → ¬ M g) : BO w' x := by
  obtain ⟨h1, f, h2, h3, h4⟩ := h
  exact ⟨h1, f, h2, own_upd h3 u hm, h4⟩
/-- Nothing of its files has turned. -/
theorem DX.turn {M : Nat → Prop} {w w' : World} {p : Nat} {a : Option Addr} {c : Nat} {L : List Fv} {q : Option Nat} {s s' : St} (h : DX w p a c L q s) (u : Upd M w w')
    (hm : ∀ k, M k → ∀ cur T, w.heap[k]? = some (.cells cur T (0, 0)) → T ≠ 95 ∧ T ≠ 5)
    (ho : w'.heap[p]? = some (.cells #[.slice a L.length c, .int .i64 s'.most, .pointer (q.map fun k => ⟨k, 0, none⟩), .bool s'.off, .int .i64 s'.bad] 84)) (hf : s'.fs = s.fs) (hw : Wf s') : DX w' p a c L q s' :=
  ⟨ho, own_upd h.l u fun g cur e q => (hm g q cur _ e).1 rfl, fun x hx => (h.b x hx).upd u fun g cur e q => (hm g q cur _ e).2 rfl, by rw [hf]; exact h.f, hw⟩
/-- A row of texts does not lie in a disk's, a fuse's block. -/
theorem strs_no {w : World} {p : Nat} {a : Option Addr} {c : Nat} {L : List Fv} {q : Option Nat} {s : St} (h : DX w p a c L q s) {j : Nat} {x : ByteArray} (e : w.cell? ⟨p, j, none⟩ = some (.string x)) : False := by
  rw [cell_of_row w p j _ _ _ h.o] at e
  match j, e with
  | 0, e => simp at e
  | 1, e => simp at e
  | 2, e => simp at e
  | 3, e => simp at e
  | 4, e => simp at e
  | j + 5, e => simp at e
theorem strs_noz {w : World} {k : Nat} {z : Fz} (h : Zs w (some k) (some z)) {b j : Nat} (eb : some k = some b) {x : ByteArray} (e : w.cell? ⟨b, j, none⟩ = some (.string x)) : False := by
  injection eb with eb
  subst eb
  unfold Zs at h
  rw [cell_of_row w k j _ _ _ h] at e
  match j, e with
  | 0, e => simp at e
  | 1, e => simp at e
  | 2, e => simp at e
  | j + 3, e => simp at e
/-- What asking leaves. -/
def AskEnd (p : Nat) (a : Option Addr) (c : Nat) (L : List Fv) (q : Option Nat) (s : St) (z : Option Fz) (ps : List ByteArray) (w : World) (e : Ending) (w' : World) : Prop :=
  e = .returned (.int .i64 (askZ z s ps).1) ∧ DX w' p a c L q (askZ z s ps).2.2 ∧ Zs w' q (askZ z s ps).2.1 ∧ Upd (Mk p q) w w'
theorem okPath_iff {p : ByteArray} : okPath p = true ↔ 1 ≤ p.size ∧ p.size ≤ 600 := by unfold okPath; simp
theorem askD_off {s : St} {ps : List ByteArray} (h : s.off = true) : askD s ps = (10, s) := by unfold askD; rw [if_pos h]
theorem askD_bad {s : St} {ps : List ByteArray} (h : s.off = false) (b : 0 < s.bad) : askD s ps = (9, { s with bad := s.bad - 1 }) := by unfold askD; rw [if_neg (by rw [h]; decide), if_pos b]
theorem askD_ok {s : St} {ps : List ByteArray} (h : s.off = false) (b : ¬ 0 < s.bad) (k : ps.all okPath = true) : askD s ps = (0, s) := by unfold askD; rw [if_neg (by rw [h]; decide), if_neg b, if_pos k]
theorem askD_no {s : St} {ps : List ByteArray} (h : s.off = false) (b : ¬ 0 < s.bad) (k : ¬ ps.all okPath = true) : askD s ps = (1, s) := by unfold askD; rw [if_neg (by rw [h]; decide), if_neg b, if_neg k]
theorem all_ok {ps : List ByteArray} (h : ∀ i, i < ps.length → okPath ps[i]! = true) : ps.all okPath = true := by
  rw [List.all_eq_true]
  intro x hx
  obtain ⟨i, hi, e⟩ := List.getElem_of_mem hx
  have := h i hi
  rw [getElem!_pos ps i hi, e] at this
  exact this
theorem not_ok {ps : List ByteArray} {i : Nat} (hi : i < ps.length) (h : okPath ps[i]! = false) : ¬ ps.all okPath = true := by
  intro q
  have := List.all_eq_true.1 q ps[i]! (by rw [getElem!_pos ps i hi]; exact List.getElem_mem hi)
  rw [h] at this; cases this

set_option maxRecDepth 100000 in
set_option maxHeartbeats 4000000 in
theorem ask_none (p : Nat) (a : Option Addr) (c : Nat) (L : List Fv) (s : St) (A : Option Addr) (C : Nat) (ps : List ByteArray) (w : World) (h : DX w p a c L none s) (hS : Strs w A ps) (hn : ps.length ≤ 1000) :
    Calls Try.prog 56 #[.pointer (some ⟨p, 0, none⟩), .slice A ps.length C] w (AskEnd p a c L none s none ps w) := by
  have d2 := h.c2
  have HD : Hid (DX w p a c L none s) := h
  have HZ : Hid (Zs w none none) := trivial
  obtain ⟨q, hq⟩ : ∃ q : Option Nat, q = none := ⟨_, rfl⟩
  have HT : Hid (∀ e w', e = .returned (.int .i64 (askD s ps).1) → DX w' p a c L none (askD s ps).2 → Upd (Mk p none) w w' → AskEnd p a c L none s none ps w e w') := fun e w' h1 h2 h3 => ⟨h1, h2, trivial, h3⟩
  dsimp only [Option.map] at d2
  generalize hW : AskEnd p a c L none s none ps w = PP at *
  clear h hW
  go_enter Try.func56, Try.ntmps56
  go_upto_region 6 with fail
  clear d2
  have d3 := HD.out.c3
  have d4 := HD.out.c4
  have hb0 := HD.out.wf.b0
  have hb1 := HD.out.wf.b1
  have f4 : ∀ j, w.frozen? ⟨p, j, none⟩ = false := HD.out.soft
  have HOF : Hid (s.off = s.off) := rfl
  cases ho : s.off with
  | true =>
    rw [ho] at d3
    have HE : Hid (askD s ps = (10, s)) := askD_off ho
    clear ho hb0 hb1 d4 f4 hS
    go_wp2
    exact HT.out _ _ (by rw [HE.out] <;> rfl) (by rw [HE.out]; exact HD.out) (Upd.refl _ _)
  | false =>
    rw [ho] at d3
    by_cases hb : 0 < s.bad
    · have HE : Hid (askD s ps = (9, { s with bad := s.bad - 1 })) := askD_bad ho hb
      obtain ⟨b, hbb⟩ : ∃ b, s.bad = b := ⟨_, rfl⟩
      rw [hbb] at d4 hb hb0 hb1
      have HO : Hid (s.off = false) := ho
      have HX : Hid (DX (w.setCell ⟨p, 4, none⟩ (.int .i64 (b - 1))) p a c L none { s with bad := s.bad - 1 }) := by
        have u : Upd (Mk p none) w (w.setCell ⟨p, 4, none⟩ (.int .i64 (b - 1))) := (Upd.refl _ _).put (.inl (.inl rfl)) _
        refine HD.out.turn u (fun k hk cur T e => p_types HD.out hk e) ?_ rfl ⟨HD.out.wf.n, HD.out.wf.b, HD.out.wf.p, HD.out.wf.m0, HD.out.wf.m1, by show 0 ≤ s.bad - 1; omega, by show s.bad - 1 ≤ _; omega⟩
        have := heap_setCell_same w p 4 _ _ (.int .i64 (b - 1)) HD.out.o
        rw [this]
        show _ = some (Obj.cells #[_, _, _, _, .int .i64 (s.bad - 1)] _)
        rw [hbb]; rfl
      have HU : Hid (Upd (Mk p none) w (w.setCell ⟨p, 4, none⟩ (.int .i64 (b - 1)))) := (Upd.refl _ _).put (.inl (.inl rfl)) _
      clear hbb ho hS
      go_wp2
      exact HT.out _ _ (by rw [HE.out] <;> rfl) (by rw [HE.out]; exact HX.out) HU.out
    · have HO : Hid (s.off = false) := ho
      have HNB : Hid (¬ 0 < s.bad) := hb
      have gb : decide (0 < s.bad) = false := decide_eq_false hb
      have HSS : Hid (Strs w A ps) := hS
      obtain ⟨b, hbb⟩ : ∃ b, s.bad = b := ⟨_, rfl⟩
      rw [hbb] at d4 gb hb0 hb1
      clear hb ho hS hbb f4
      go_wp2_with fail
      go_loopw [5] (fun i wr => ∃ j : Nat, j ≤ ps.length ∧ i = .int .i64 j ∧ (∀ k, k < j → okPath ps[k]! = true) ∧ w = wr) (fun i _ => ps.length - (intOf i).toNat)
      case atStart => exact ⟨0, by omega, rfl, fun k hk => absurd hk (by omega), rfl⟩
      case round =>
        obtain ⟨j, hj, rfl, hk, rfl⟩ := hrel
        clear d3 d4 gb hb0 hb1
        by_cases hlt : j < ps.length
        · have ij : (j : Int) < (ps.length : Int) := by omega
          obtain ⟨bb, oo, rfl, hA⟩ := HSS.out (by omega)
          have t0 := hA j hlt
          obtain ⟨x, hx⟩ : ∃ x, ps[j]! = x := ⟨_, rfl⟩
          rw [hx] at t0
          have HX : Hid (ps[j]! = x) := hx
          have HK : Hid (∀ k, k < j → okPath ps[k]! = true) := hk
          clear hA hx hk
          by_cases o1 : x.size < 1
          · have i1 : (x.size : Int) < 1 := by omega
            have HE : Hid (askD s ps = (1, s)) := askD_no HO.out (by have := HNB.out; omega) (not_ok hlt (by rw [HX.out]; cases e : okPath x with | false => rfl | true => have := okPath_iff.1 e; omega))
            go_wp2
            exact HT.out _ _ (by rw [HE.out] <;> rfl) (by rw [HE.out]; exact HD.out) (Upd.refl _ _)
          · have i1 : decide ((x.size : Int) < 1) = false := decide_eq_false (by omega)
            by_cases o2 : 600 < x.size
            · have i2 : (600 : Int) < (x.size : Int) := by omega
              have HE : Hid (askD s ps = (1, s)) := askD_no HO.out (by have := HNB.out; omega) (not_ok hlt (by rw [HX.out]; cases e : okPath x with | false => rfl | true => have := okPath_iff.1 e; omega))
              go_wp2
              exact HT.out _ _ (by rw [HE.out] <;> rfl) (by rw [HE.out]; exact HD.out) (Upd.refl _ _)
            · have i2 : decide ((600 : Int) < (x.size : Int)) = false := decide_eq_false (by omega)
              have HXK : Hid (okPath x = true) := okPath_iff.2 ⟨by omega, by omega⟩
              clear o1 o2
              go_wp2
              go_round
              case rel => exact ⟨j + 1, by omega, by go_num, fun k hk => (by
                by_cases e : k < j
                · exact HK.out k e
                · have : k = j := by omega
                  subst this
                  rw [HX.out]; exact HXK.out), by trivial⟩
              case measure => simp [intOf]; omega
        · have hjn : j = ps.length := by omega
          subst hjn
          have ij : decide ((ps.length : Int) < (ps.length : Int)) = false := by simp
          have HE : Hid (askD s ps = (0, s)) := askD_ok HO.out (by have := HNB.out; omega) (all_ok hk)
          clear hk hlt
          go_wp2
          exact HT.out _ _ (by rw [HE.out] <;> rfl) (by rw [HE.out]; exact HD.out) (Upd.refl _ _)

set_option maxRecDepth 100000 in
set_option maxHeartbeats 4000000 in
theorem ask_some (p : Nat) (a : Option Addr) (c : Nat) (L : List Fv) (k : Nat) (s : St) (z : Fz) (A : Option Addr) (C : Nat) (ps : List ByteArray) (w : World) (h : DX w p a c L (some k) s) (hz : Zs w (some k) (some z)) (hS : Strs w A ps) (hn : ps.length ≤ 1000) (hd : 0 ≤ z.done) (hd1 : z.done ≤ 4611686018427387904) :
    Calls Try.prog 56 #[.pointer (some ⟨p, 0, none⟩), .slice A ps.length C] w (AskEnd p a c L (some k) s (some z) ps w) := by
  have d2 := h.c2
  dsimp only [Option.map] at d2
  have hz' : w.heap[k]? = some (.cells #[.int .i64 z.n, .int .i64 z.done, .bool z.blown] 49) := hz
  have z0 := cell_of_row w k 0 _ _ _ hz'
  have z1 := cell_of_row w k 1 _ _ _ hz'
  have z2 := cell_of_row w k 2 _ _ _ hz'
  have fz : ∀ j, w.frozen? ⟨k, j, none⟩ = false := fun j => frozen_of_row w k j _ _ hz'
  simp only [List.getElem?_toArray, List.getElem?_cons_zero, List.getElem?_cons_succ] at z0 z1 z2
  cases hb : z.blown with
  | true =>
    rw [hb] at z2
    have HE : Hid (askZ (some z) s ps = (20, some z, s)) := by unfold Hid askZ; dsimp only; rw [if_pos hb]
    have HD : Hid (DX w p a c L (some k) s) := h
    have HZ : Hid (Zs w (some k) (some z)) := hz
    have HT : Hid (∀ e w', e = .returned (.int .i64 20) → w' = w → AskEnd p a c L (some k) s (some z) ps w e w') := fun e w' h1 h2 => by
      subst h2
      unfold AskEnd
      rw [HE.out]
      exact ⟨h1, HD.out, HZ.out, Upd.refl _ _⟩
    generalize hW : AskEnd p a c L (some k) s (some z) ps w = PP at *
    clear h hz hz' hS hb hW z0 z1 fz
    go_enter Try.func56, Try.ntmps56
    go_wp2
    exact HT.out _ _ rfl rfl
  | false =>
    rw [hb] at z2
    obtain ⟨zn, zd, zb⟩ := z
    dsimp only at hb hd hd1 z0 z1 z2 hz'
    subst hb
    obtain ⟨B, hB⟩ : ∃ B, decide (0 < zn ∧ zn ≤ zd + 1) = B := ⟨_, rfl⟩
    obtain ⟨W1, hW1⟩ : ∃ W1, w.setCell ⟨k, 1, none⟩ (.int .i64 (zd + 1)) = W1 := ⟨_, rfl⟩
    have k1 : W1.heap[k]? = some (.cells #[.int .i64 zn, .int .i64 (zd + 1), .bool false] 49) := by rw [← hW1]; exact heap_setCell_same w k 1 _ _ _ hz'
    have y0 := cell_of_row W1 k 0 _ _ _ k1
    have y1 := cell_of_row W1 k 1 _ _ _ k1
    have y2 := cell_of_row W1 k 2 _ _ _ k1
    have fy : ∀ j, W1.frozen? ⟨k, j, none⟩ = false := fun j => frozen_of_row W1 k j _ _ k1
    simp only [List.getElem?_toArray, List.getElem?_cons_zero, List.getElem?_cons_succ] at y0 y1 y2
    have hpk : p ≠ k := fun e => by
      subst e
      have := h.o
      rw [hz'] at this
      injection this with this
      injection this with _ this _
      cases this
    have x2 : W1.cell? ⟨p, 2, none⟩ = some (.pointer (some ⟨k, 0, none⟩)) := by
      rw [← hW1, World.cell?_setCell_other _ _ _ _ (fun e => hpk (by injection e with e; exact e.symm))]; exact d2
    have HB : Hid (decide (0 < zn ∧ zn ≤ zd + 1) = B) := hB
    have HZ0 : Hid (Zs w (some k) (some ⟨zn, zd, false⟩)) := hz
    have HD0 : Hid (DX w p a c L (some k) s) := h
    have HS0 : Hid (Strs w A ps) := hS
    have HK1 : Hid (W1.heap[k]? = some (.cells #[.int .i64 zn, .int .i64 (zd + 1), .bool false] 49)) := k1
    have HW1 : Hid (w.setCell ⟨k, 1, none⟩ (.int .i64 (zd + 1)) = W1) := hW1
    have HP : Hid (p ≠ k) := hpk
    -- what the ticked fuse leaves
    have HV : Hid (DX ((W1.setCell ⟨k, 2, none⟩ (.bool B)).drew) p a c L (some k) s ∧ Zs ((W1.setCell ⟨k, 2, none⟩ (.bool B)).drew) (some k) (some (tick ⟨zn, zd, false⟩)) ∧ Upd (Mk p (some k)) w ((W1.setCell ⟨k, 2, none⟩ (.bool B)).drew)) := by
      have u : Upd (Mk p (some k)) w ((W1.setCell ⟨k, 2, none⟩ (.bool B)).drew) := by
        rw [← hW1]
        exact (((Upd.refl _ _).put (p := ⟨k, 1, none⟩) (.inl (.inr rfl)) _).put (p := ⟨k, 2, none⟩) (.inl (.inr rfl)) _).drew
      refine ⟨h.turn u (fun j hj cur T e => mk_types h hz hj e) ?_ rfl h.wf, ?_, u⟩
      · show (W1.setCell ⟨k, 2, none⟩ (.bool B)).heap[p]? = _
        rw [heap_setCell_other _ _ _ _ hpk]
        rw [← hW1, heap_setCell_other _ _ _ _ hpk]
        exact h.o
      · have := heap_setCell_same W1 k 2 _ _ (.bool B) k1
        unfold Zs tick
        dsimp only
        rw [hB]
        exact this
    clear h hz hS hB k1 hpk hz'
    have HT : Hid (∀ W, DX W p a c L (some k) s → Zs W (some k) (some (tick ⟨zn, zd, false⟩)) → Upd (Mk p (some k)) w W → ∀ e w', e = .returned (.int .i64 (askD s ps).1) → DX w' p a c L (some k) (askD s ps).2 → Upd (Mk p (some k)) W w' → Zs w' (some k) (some (tick ⟨zn, zd, false⟩)) → AskEnd p a c L (some k) s (some ⟨zn, zd, false⟩) ps w e w') := fun W h1 h2 h3 e w' e1 e2 e3 e4 => ⟨e1, e2, e4, h3.trans e3⟩
    generalize hW : AskEnd p a c L (some k) s (some ⟨zn, zd, false⟩) ps w = PP at *
    clear hW
    unfold tick at HT HV
    dsimp only at HT HV
    go_enter Try.func56, Try.ntmps56
    go_upto_region 5 with fail
    clear hW1 d2 fz z0 z1 z2
    go_cut [] (fun wx => DX wx p a c L (some k) s ∧ Zs wx (some k) (some ⟨zn, zd + 1, decide (0 < zn ∧ zn ≤ zd + 1)⟩) ∧ Upd (Mk p (some k)) w wx)
    case first =>
      by_cases g0 : 0 < zn
      · by_cases g1 : zn ≤ zd + 1
        · have eB : B = true := by rw [← HB.out]; exact decide_eq_true ⟨g0, g1⟩
          subst eB
          go_region
          go_wp2_with fail
          go_meet
          exact HV.out
        · have eB : B = false := by rw [← HB.out]; exact decide_eq_false (fun q => g1 q.2)
          have g1' : decide (zn ≤ zd + 1) = false := decide_eq_false g1
          clear g1
          subst eB
          go_region
          go_wp2_with fail
          go_meet
          exact HV.out
      · have eB : B = false := by rw [← HB.out]; exact decide_eq_false (fun q => g0 q.1)
        have g0' : decide (0 < zn) = false := decide_eq_false g0
        clear g0
        subst eB
        go_region
        go_wp2_with fail
        go_meet
        exact HV.out
    case rest =>
      obtain ⟨hD, hZ, hU⟩ := hcut
      have HT1 : Hid (∀ e w', e = .returned (.int .i64 (askD s ps).1) → DX w' p a c L (some k) (askD s ps).2 → Upd (Mk p none) wc w' → PP e w') := fun e w' h1 h2 h3 => HT.out wc hD hZ hU e w' h1 h2 (h3.mono fun i _ hi => by rcases hi with hi | hi; exact .inl hi; cases hi) (hZ.upd h3 HP.out)
      have hS : Strs wc A ps := fun h0 => by
        obtain ⟨b, o, e, hA⟩ := HS0.out h0
        refine ⟨b, o, e, fun i hi => ?_⟩
        have hc := hA i hi
        have hbl := block_lt_of_cell (a := ⟨b, o + i, none⟩) hc
        rw [World.cell?_of_block (w := w) (hU.block b hbl (fun e => by
          rcases e with e | e
          · subst e
            obtain ⟨cc, hcc⟩ : ∃ x, w.heap[b]? = some x := ⟨_, HD0.out.o⟩
            exact strs_no HD0.out hc
          · exact strs_noz HZ0.out e hc))]
        exact hc
      have HD : Hid (DX wc p a c L (some k) s) := hD
      clear hD hZ hU HT HV HS0 HK1 HW1 HZ0 HD0 y0 y1 y2 fy x2 HB
      have HT := HT1
      clear HT1
      generalize wc = W at *
      have d3 := HD.out.c3
      have d4 := HD.out.c4
      have hb0 := HD.out.wf.b0
      have hb1 := HD.out.wf.b1
      have f4 : ∀ j, W.frozen? ⟨p, j, none⟩ = false := HD.out.soft
      have HOF : Hid (s.off = s.off) := rfl
      cases ho : s.off with
      | true =>
        rw [ho] at d3
        have HE : Hid (askD s ps = (10, s)) := askD_off ho
        clear ho hb0 hb1 d4 f4 hS
        go_wp2
        exact HT.out _ _ (by rw [HE.out] <;> rfl) (by rw [HE.out]; exact HD.out) (Upd.refl _ _)
      | false =>
        rw [ho] at d3
        by_cases hb : 0 < s.bad
        · have HE : Hid (askD s ps = (9, { s with bad := s.bad - 1 })) := askD_bad ho hb
          obtain ⟨b, hbb⟩ : ∃ b, s.bad = b := ⟨_, rfl⟩
          rw [hbb] at d4 hb hb0 hb1
          have HO : Hid (s.off = false) := ho
          have HX : Hid (DX (W.setCell ⟨p, 4, none⟩ (.int .i64 (b - 1))) p a c L (some k) { s with bad := s.bad - 1 }) := by
            have u : Upd (Mk p none) W (W.setCell ⟨p, 4, none⟩ (.int .i64 (b - 1))) := (Upd.refl _ _).put (.inl (.inl rfl)) _
            refine HD.out.turn u (fun k hk cur T e => p_types HD.out hk e) ?_ rfl ⟨HD.out.wf.n, HD.out.wf.b, HD.out.wf.p, HD.out.wf.m0, HD.out.wf.m1, by show 0 ≤ s.bad - 1; omega, by show s.bad - 1 ≤ _; omega⟩
            have := heap_setCell_same W p 4 _ _ (.int .i64 (b - 1)) HD.out.o
            rw [this]
            show _ = some (Obj.cells #[_, _, _, _, .int .i64 (s.bad - 1)] _)
            rw [hbb]; rfl
          have HU : Hid (Upd (Mk p none) W (W.setCell ⟨p, 4, none⟩ (.int .i64 (b - 1)))) := (Upd.refl _ _).put (.inl (.inl rfl)) _
          clear hbb ho hS
          go_wp2
          exact HT.out _ _ (by rw [HE.out] <;> rfl) (by rw [HE.out]; exact HX.out) HU.out
        · have HO : Hid (s.off = false) := ho
          have HNB : Hid (¬ 0 < s.bad) := hb
          have gb : decide (0 < s.bad) = false := decide_eq_false hb
          have HSS : Hid (Strs W A ps) := hS
          obtain ⟨b, hbb⟩ : ∃ b, s.bad = b := ⟨_, rfl⟩
          rw [hbb] at d4 gb hb0 hb1
          clear hb ho hS hbb f4
          go_wp2_with fail
          go_loopw [5] (fun i wr => ∃ j : Nat, j ≤ ps.length ∧ i = .int .i64 j ∧ (∀ k, k < j → okPath ps[k]! = true) ∧ W = wr) (fun i _ => ps.length - (intOf i).toNat)
          case atStart => exact ⟨0, by omega, rfl, fun k hk => absurd hk (by omega), rfl⟩
          case round =>
            obtain ⟨j, hj, rfl, hk, rfl⟩ := hrel
            clear d3 d4 gb hb0 hb1
            by_cases hlt : j < ps.length
            · have ij : (j : Int) < (ps.length : Int) := by omega
              obtain ⟨bb, oo, rfl, hA⟩ := HSS.out (by omega)
              have t0 := hA j hlt
              obtain ⟨x, hx⟩ : ∃ x, ps[j]! = x := ⟨_, rfl⟩
              rw [hx] at t0
              have HX : Hid (ps[j]! = x) := hx
              have HK : Hid (∀ k, k < j → okPath ps[k]! = true) := hk
              clear hA hx hk
              by_cases o1 : x.size < 1
              · have i1 : (x.size : Int) < 1 := by omega
                have HE : Hid (askD s ps = (1, s)) := askD_no HO.out (by have := HNB.out; omega) (not_ok hlt (by rw [HX.out]; cases e : okPath x with | false => rfl | true => have := okPath_iff.1 e; omega))
                go_wp2
                exact HT.out _ _ (by rw [HE.out] <;> rfl) (by rw [HE.out]; exact HD.out) (Upd.refl _ _)
              · have i1 : decide ((x.size : Int) < 1) = false := decide_eq_false (by omega)
                by_cases o2 : 600 < x.size
                · have i2 : (600 : Int) < (x.size : Int) := by omega
                  have HE : Hid (askD s ps = (1, s)) := askD_no HO.out (by have := HNB.out; omega) (not_ok hlt (by rw [HX.out]; cases e : okPath x with | false => rfl | true => have := okPath_iff.1 e; omega))
                  go_wp2
                  exact HT.out _ _ (by rw [HE.out] <;> rfl) (by rw [HE.out]; exact HD.out) (Upd.refl _ _)
                · have i2 : decide ((600 : Int) < (x.size : Int)) = false := decide_eq_false (by omega)
                  have HXK : Hid (okPath x = true) := okPath_iff.2 ⟨by omega, by omega⟩
                  clear o1 o2
                  go_wp2
                  go_round
                  case rel => exact ⟨j + 1, by omega, by go_num, fun k hk => (by
                    by_cases e : k < j
                    · exact HK.out k e
                    · have : k = j := by omega
                      subst this
                      rw [HX.out]; exact HXK.out), by trivial⟩
                  case measure => simp [intOf]; omega
            · have hjn : j = ps.length := by omega
              subst hjn
              have ij : decide ((ps.length : Int) < (ps.length : Int)) = false := by simp
              have HE : Hid (askD s ps = (0, s)) := askD_ok HO.out (by have := HNB.out; omega) (all_ok hk)
              clear hk hlt
              go_wp2
              exact HT.out _ _ (by rw [HE.out] <;> rfl) (by rw [HE.out]; exact HD.out) (Upd.refl _ _)
end Go.Proofs.Ythkhkijdehbbmaa
