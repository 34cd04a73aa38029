/-
  paths, List, Files of the program's disk.
-/
import Derived.Test.YthkhkijdehbbmaaSmH
set_option maxRecDepth 100000
namespace Go.Proofs.Ythkhkijdehbbmaa
open Go.RowKit
open _root_.Go.Proofs.Ythkhkijdehbbmaa.Nm _root_.Go.Proofs.Ythkhkijdehbbmaa.Dk
attribute [local go_sem ↓] Go.wp_at_zero Go.wp_at_succ
set_option linter.unusedVariables false

/-- A row of texts that is new. -/
def PathsEnd (Y : List ByteArray) (w : World) (e : Ending) (w' : World) : Prop :=
  ∃ v M, e = .returned v ∧ SOwn w' w.heap.size v M ∧ (M.map fun y => y.s) = Y ∧ Below w.heap.size w w'
theorem vl_inv {v : Value} {y : DataW Value × List MemPlace} (h : RF v = some y) : ∃ c : Fv, v = vl c := by
  obtain ⟨_, a, n, c, b, e⟩ := RF_inv h
  exact ⟨⟨⟨#[]⟩, (a, n, c), b, ⟨#[]⟩⟩, e⟩
/-- The round's relation. -/
structure Walk (V : List Fv) (x : ByteArray) (m Bs r : Nat) (w : World) (left : Lit → Bool) (cnt : Nat) (v : Value) (L : List Sv) (wr : World) : Prop where
  rg : wr.ranges Try.prog 9 RF m r V.length (DM V) left cnt
  bx : wr.heap[Bs]? = some (.cells #[v] 36)
  ow : SOwn wr (Bs + 2) v L
  gt : Got V x left L
  ln : L.length + cnt ≤ V.length
  bl : Below Bs w wr
  sz : Bs + 2 ≤ wr.heap.size
theorem sown_upd {M : Nat → Prop} {w w' : World} {base : Nat} {v : Value} {L : List Sv} (h : SOwn w base v L) (u : Upd M w w') (hm : ∀ g cur, w.heap[g]? = some (.cells cur 9 (0, 0)) → ¬ M g) : SOwn w' base v L := own_upd h u hm
set_option maxHeartbeats 8000000 in
theorem paths_any (p m : Nat) (V : List Fv) (q : Option Nat) (s : St) (F : Int) (x : ByteArray) (w : World) (h : PX w p m V q s F) (hx : x.size ≤ maxLen) :
    Calls Try.prog 37 #[.pointer (some ⟨p, 0, none⟩), .string x] w (PathsEnd (lst x s.fs) w) := by
  obtain ⟨W, hW⟩ : ∃ W, w.alloc (.cells #[.slice none 0 0] 36) = W := ⟨_, rfl⟩
  have bW : Below w.heap.size w W := by rw [← hW]; exact bal _ _
  have hXW := h.keep bW
  have hsW : W.heap.size = w.heap.size + 1 := by rw [← hW]; simp
  have c0 := hXW.c0
  have hown := hXW.m
  have hbx : W.heap[w.heap.size]? = some (.cells #[.slice none 0 0] 36) := by rw [← hW]; exact heap_alloc_new _ _
  have hml : m < w.heap.size := h.m.lt
  have hn := h.n
  have HR : Hid (Rise V) := h.r
  have HV : Hid (s.fs = V.map fl) := h.f
  have HWF : Hid (Wf s) := h.wf
  have HPT : Hid (∀ t : ByteArray, (∃ y ∈ V, y.path = t) → t.size ≤ 600) := fun t ⟨y, hy, e⟩ => by
    have := h.wf.p (fl y) (by rw [h.f]; exact List.mem_map_of_mem hy)
    rw [← e]; exact this
  have HT : Hid (∀ v M w', SOwn w' w.heap.size v M → (M.map fun y => y.s) = lst x s.fs → Below w.heap.size w w' → PathsEnd (lst x s.fs) w (.returned v) w') := fun v M w' h1 h2 h3 => ⟨v, M, rfl, h1, h2, h3⟩
  obtain ⟨Bs, hBs⟩ : ∃ Bs, w.heap.size = Bs := ⟨_, rfl⟩
  have HB : Hid (w.heap.size = Bs) := hBs
  rw [hBs] at hbx hml hsW bW
  have HBX : Hid (W.heap[Bs]? = some (.cells #[.slice none 0 0] 36)) := hbx
  have HML : Hid (m < Bs) := hml
  have HSW : Hid (W.heap.size = Bs + 1) := hsW
  have HBW : Hid (Below Bs w W) := bW
  have HN : Hid (V.length ≤ 4096) := hn
  generalize hPP : PathsEnd (lst x s.fs) w = PP at *
  clear h hXW bW hbx hml hn hsW hPP
  go_enter Try.func37, Try.ntmps37
  go_wp2_with (at_range; refine wpList_range_own _ rfl _ 69 rfl 9 74 lawS Try.underlying69 RF m V.length (DM V) rfl hown ?_; intro w0 hrg hg hs)
  have HW0 : Hid (Walk V x m Bs W.heap.size w (Maps.has (DM V)) (Maps.size (DM V)) (.slice none 0 0) [] w0) := by
    have hl : Bs < W.heap.size := by have := HSW.out; omega
    exact ⟨hrg, (hg.block Bs hl (by simp)).trans HBX.out, SOwn.start _ _, Got.start V x, by rw [dm_size]; exact Nat.le_of_eq (Nat.zero_add _), HBW.out.trans ⟨hg.os, hg.tape, hg.output, hg.size, fun k hk => hg.block k (by omega) (by simp)⟩, by have := HSW.out; omega⟩
  clear hrg hg hs hown c0
  go_frame
  go_loopw [12] (fun _ wr => ∃ left cnt v L, Walk V x m Bs W.heap.size w left cnt v L wr) (fun _ wr => wr.rangeLeft m W.heap.size)
  case atStart => exact ⟨_, _, _, [], HW0.out⟩
  case round =>
    obtain ⟨left, cnt, v, L, hWk⟩ := hrel
    have hrg := hWk.rg
    have hbx := cell_of_row wr Bs 0 _ _ _ hWk.bx
    simp only [List.getElem?_toArray, List.getElem?_cons_zero] at hbx
    have HWk : Hid (Walk V x m Bs W.heap.size w left cnt v L wr) := hWk
    clear hWk
    go_wp2_with (first
      | (at_next; refine wpList_next_ranges _ rfl _ rfl 9 lawS RF Value.string vl (fun key kl' hk => by obtain ⟨t, e, _⟩ := keyS_inv hk; exact ⟨t, e⟩) (fun v' y' hv' => vl_inv hv') m W.heap.size V.length (DM V) left cnt rfl hrg ?_ ?_)
      | go_in)
    · -- nothing is left
      intro hc0 hl0
      have HL0 : Hid (∀ k, left k = false) := hl0
      have cS := sort_any (Bs + 2) Bs v L wr HWk.out.ow HWk.out.bx (by have := HWk.out.ln; have := HN.out; omega)
      clear hrg hc0 hl0
      go_wp2_with fail
      go_at_call 53
      refine cS.mono ?_
      rintro e w2 ⟨rfl, L', ho', hp', hs', hb', hg'⟩
      have hb2 : w2.heap[Bs]? = some (.cells #[v] 36) := hb'.trans HWk.out.bx
      have y0 := cell_of_row w2 Bs 0 _ _ _ hb2
      simp only [List.getElem?_toArray, List.getElem?_cons_zero] at y0
      have HF : Hid (SOwn w2 w.heap.size v L' ∧ (L'.map fun y => y.s) = lst x s.fs ∧ Below w.heap.size w w2) := by
        refine ⟨ho'.mono (by have := HB.out; omega), by rw [HV.out]; exact HWk.out.gt.done HR.out HL0.out hp' hs', ?_⟩
        rw [HB.out]
        refine HWk.out.bl.trans ⟨hg'.os, hg'.tape, hg'.output, hg'.size, fun k hk => hg'.block k (by have := HWk.out.sz; omega) fun e => ?_⟩
        rcases HWk.out.ow.2 with ⟨e1, _⟩ | ⟨g, cap, cur, e1, hg3, _⟩
        · rw [e1] at e; simp [Value.ownBlock] at e
        · rw [e1] at e; simp [Value.ownBlock] at e; omega
      clear cS ho' hp' hs' hb' hg' hb2 hbx
      go_wp2
      exact HT.out _ _ _ HF.out.1 HF.out.2.1 HF.out.2.2
    · -- one more
      intro t c kl' y yp wb cnt' hkey hlk hv hat hrg1 hlt hgr hsz hen
      obtain ⟨t', et, ek, _⟩ := keyS_inv hkey
      injection et with et
      subst et; subst ek
      have hmem : ∃ y ∈ V, y.path = t := (has_mem V t).1 (Maps.has_true_of_atKey hat)
      have ht6 := HPT.out t hmem
      have HMEM : Hid (∃ y ∈ V, y.path = t) := hmem
      have HLK : Hid (left (kl t) = true) := hlk
      have cP := prefix_any t x wb (by unfold maxLen; omega) hx
      have ug : Upd (fun k => k = W.heap.size) wr wb := ⟨hgr.os, hgr.tape, hgr.output, hgr.size, fun k hk hm => hgr.block k hk (fun e => hm (Option.some.inj e))⟩
      have hbx1 : wb.heap[Bs]? = some (.cells #[v] 36) := (hgr.block Bs (Array.getElem?_eq_some_iff.1 HWk.out.bx).1 (fun e => (by injection e with e; have := HSW.out; omega))).trans HWk.out.bx
      have how1 : SOwn wb (Bs + 2) v L := sown_upd HWk.out.ow ug fun g cur e k => ranges_r hrg (by rw [← k]; exact e)
      have hbl1 : Below Bs w wb := HWk.out.bl.trans ⟨hgr.os, hgr.tape, hgr.output, hgr.size, fun k hk => hgr.block k (by have := HWk.out.sz; omega) (fun e => (by injection e with e; have := HSW.out; omega))⟩
      have HRG1 : Hid (wb.ranges Try.prog 9 RF m W.heap.size V.length (DM V) (fun z => left z && !z.sameKey (kl t)) cnt') := hrg1
      have HBX1 : Hid (wb.heap[Bs]? = some (.cells #[v] 36)) := hbx1
      have HOW1 : Hid (SOwn wb (Bs + 2) v L) := how1
      have HBL1 : Hid (Below Bs w wb) := hbl1
      have HSZ1 : Hid (Bs + 2 ≤ wb.heap.size) := by unfold Hid; rw [hsz]; exact HWk.out.sz
      have HLT : Hid (cnt' < cnt) := hlt
      have HRG : Hid (wr.ranges Try.prog 9 RF m W.heap.size V.length (DM V) left cnt) := hrg
      have yb := cell_of_row wb Bs 0 _ _ _ hbx1
      simp only [List.getElem?_toArray, List.getElem?_cons_zero] at yb
      have yf := frozen_of_row wb Bs 0 _ _ hbx1
      clear hkey hlk hv hat hrg1 hlt hgr hsz hmem ug hbx1 how1 hbl1 hrg hbx
      go_wp2_with fail
      go_at_call 52
      refine cP.mono ?_
      rintro e w2 ⟨rfl, rfl⟩
      clear cP hen
      cases hp : pre (tx t) (tx x) with
      | false =>
        have HP : Hid (pre (tx t) (tx x) = false) := hp
        clear hp yb yf
        go_wp2
        go_roundw
        case rel => exact ⟨_, cnt', v, L, HRG1.out, HBX1.out, HOW1.out, HWk.out.gt.skip HP.out, by have := HWk.out.ln; have := HLT.out; omega, HBL1.out, HSZ1.out⟩
        case measure => rw [HRG1.out.left_eq, HRG.out.left_eq]; exact HLT.out
      | true =>
        have HP : Hid (pre (tx t) (tx x) = true) := hp
        obtain ⟨W1, hW1⟩ : ∃ W1, wb.alloc (.cells #[.string t] 9) = W1 := ⟨_, rfl⟩
        have b1 : Below wb.heap.size wb W1 := by rw [← hW1]; exact bal _ _
        have hlit := litS wb ⟨t⟩
        rw [hW1] at hlit
        obtain ⟨v', W2, r1, o1, g1, b2⟩ := appendS (c := 1) (HOW1.out.keep b1) hlit (fun e => by cases e) (by have := HWk.out.ln; have := HN.out; simp; omega) (by have := HSZ1.out; have := b1.size; omega)
        obtain ⟨a', c', ev, _⟩ := o1.row
        obtain ⟨nn, hnn⟩ : ∃ nn, (L ++ [(⟨t⟩ : Sv)]).length = nn := ⟨_, rfl⟩
        rw [hnn] at ev
        obtain ⟨v', hv'⟩ : ∃ u, u = Value.slice a' nn c' := ⟨_, rfl⟩
        rw [← hv'] at ev
        subst ev
        have u2 : Upd (fun k => Bs + 2 ≤ k) wb W2 := (Upd.of b1).then ⟨b2.os, b2.tape, b2.output, b2.size, fun k hk hm => b2.block k (by omega)⟩ (fun i _ k => k)
        have hbx2 : W2.heap[Bs]? = some (.cells #[v] 36) := (u2.block Bs (Array.getElem?_eq_some_iff.1 HBX1.out).1 (by omega)).trans HBX1.out
        have zb := cell_of_row W2 Bs 0 _ _ _ hbx2
        simp only [List.getElem?_toArray, List.getElem?_cons_zero] at zb
        have zf := frozen_of_row W2 Bs 0 _ _ hbx2
        have HR1 : Hid (Sem.run Try.prog (Builtin.append_ #[36, 36] 36 #[v, .slice (some ⟨wb.heap.size, 0, none⟩) 1 1]) W1 = .ok v' W2) := r1
        have HW9 : Hid (Walk V x m Bs W.heap.size w (fun z => left z && !z.sameKey (kl t)) cnt' v' (L ++ [⟨t⟩]) (W2.setCell ⟨Bs, 0, none⟩ v')) := by
          have u3 : Upd (fun k => k = Bs) W2 (W2.setCell ⟨Bs, 0, none⟩ v') := Upd.put (M := fun k => k = Bs) (Upd.refl _ _) (p := ⟨Bs, 0, none⟩) (.inl rfl) _
          have hml := HML.out
          have hsw := HSW.out
          refine ⟨?_, ?_, ?_, HWk.out.gt.more HP.out HLK.out HMEM.out, ?_, ?_, ?_⟩
          · have g0 : Upd (fun k => (∃ a n c, v = .slice (some ⟨k, a, none⟩) n c) ∨ wb.heap.size ≤ k) wb W2 := by
              refine (Upd.of b1).then (N := fun k => ∃ a n c, v = .slice (some ⟨k, a, none⟩) n c) ⟨g1.os, g1.tape, g1.output, g1.size, fun k hk hm => g1.block k hk fun e => ?_⟩ (fun i _ k => .inl k)
              rcases HOW1.out.2 with ⟨e1, _⟩ | ⟨g, cap, cur, e1, _⟩
              · rw [e1] at e; simp [Value.ownBlock] at e
              · rw [e1] at e; simp [Value.ownBlock] at e
                subst e
                exact hm ⟨0, _, _, e1⟩
            have hv : ∀ k, (∃ a n c, v = .slice (some ⟨k, a, none⟩) n c) → Bs + 2 ≤ k ∧ ∃ cur, wb.heap[k]? = some (.cells cur 9 (0, 0)) := fun k ⟨a, n, c, e⟩ => by
              rcases HOW1.out.2 with ⟨e1, _⟩ | ⟨g, cap, cur, e1, hg, hh, _⟩
              · rw [e1] at e; cases e
              · rw [e1] at e
                injection e with e _ _
                injection e with e
                injection e with e
                subst e
                exact ⟨hg, cur, hh⟩
            have hrl : W.heap.size < wb.heap.size := by have := HSZ1.out; omega
            refine ranges_upd (ranges_upd HRG1.out g0 (fun k => ?_) fun k => ?_) u3 (by omega) (by omega)
            · rcases k with k | k
              · have := (hv m k).1; omega
              · have := HSZ1.out; omega
            · rcases k with k | k
              · have := (hv _ k).1; omega
              · omega
          · rw [heap_setCell_same W2 Bs 0 _ _ v' hbx2]; rfl
          · exact sown_upd o1 u3 fun g cur e k => by
              subst k
              rw [hbx2] at e
              injection e with e
              injection e with _ e _
              cases e
          · have := HWk.out.ln; have := HLT.out; rw [List.length_append]; simp; omega
          · exact (HBL1.out.trans ⟨u2.os, u2.tape, u2.output, u2.size, fun k hk => u2.block k (by have := HSZ1.out; omega) (by omega)⟩).setCell (Nat.le_refl _) _
          · have := HSZ1.out; have := u2.size; simp [World.setCell]; omega
        subst hv'
        clear hp b1 hlit r1 o1 g1 b2 u2 hbx2
        go_wp2_with (at_builtin; refine wpList_append_ran (by rfl) _ _ 36 (by rfl) _ _ _ _ (by rfl) (by rfl) HR1.out ?_)
        go_roundw
        case rel => exact ⟨_, cnt', _, _, HW9.out⟩
        case measure => rw [HW9.out.rg.left_eq, HRG.out.left_eq]; exact HLT.out
/-- What List leaves. -/
def PList (p m : Nat) (V : List Fv) (q : Option Nat) (Y : List ByteArray × Int) (s' : St) (z' : Option Fz) (w : World) (e : Ending) (w' : World) : Prop :=
  ∃ v M, e = .returned (.tuple #[v, .int .i64 Y.2]) ∧ SOwn w' w.heap.size v M ∧ (M.map fun y => y.s) = Y.1 ∧ ∃ F', PX w' p m V q s' F' ∧ FZ w' q z' ∧ Upd (Mk p q) w w'
set_option maxHeartbeats 4000000 in
theorem plist_any (p m : Nat) (V : List Fv) (q : Option Nat) (s : St) (F : Int) (z : Option Fz) (x : ByteArray) (w : World) (h : PX w p m V q s F) (hz : FZ w q z) (hb : Zb z) (hx : x.size ≤ maxLen) :
    Calls Try.prog 20 #[.pointer (some ⟨p, 0, none⟩), .string x] w (PList p m V q (lisZ z s x) (askZ z s []).2.2 (askZ z s []).2.1 w) := by
  have cA := pask_any p m V q s F z none 0 [] w h hz hb (fun k => absurd k (Nat.not_lt_zero _)) (Nat.zero_le _)
  have hfs : (askZ z s []).2.2.fs = s.fs := askZ_fs z s []
  have hy : lisZ z s x = if (askZ z s []).1 ≠ 0 then ([], (askZ z s []).1) else (lst x s.fs, 0) := rfl
  obtain ⟨Y, hY⟩ : ∃ Y, lisZ z s x = Y := ⟨_, rfl⟩
  rw [hY] at hy ⊢
  obtain ⟨e0, he0⟩ : ∃ e0, (askZ z s []).1 = e0 := ⟨_, rfl⟩
  obtain ⟨s1, hs1⟩ : ∃ s1, (askZ z s []).2.2 = s1 := ⟨_, rfl⟩
  obtain ⟨z1, hz1⟩ : ∃ z1, (askZ z s []).2.1 = z1 := ⟨_, rfl⟩
  rw [he0, hs1, hz1] at cA
  rw [he0] at hy
  rw [hs1] at hfs
  rw [hs1, hz1]
  have cA1 : Calls Try.prog 32 #[.pointer (some ⟨p, 0, none⟩), .slice none 0 0] w (PAsk p m V q e0 s1 z1 w) := cA
  have HT : Hid (∀ v M d F' w', SOwn w' w.heap.size v M → Y = (M.map (fun y => y.s), d) → PX w' p m V q s1 F' → FZ w' q z1 → Upd (Mk p q) w w' → PList p m V q Y s1 z1 w (.returned (.tuple #[v, .int .i64 d])) w') := fun v M d F' w' h1 h2 h3 h4 h5 => by subst h2; exact ⟨v, M, rfl, h1, rfl, F', h3, h4, h5⟩
  have HX : Hid (x.size ≤ maxLen) := hx
  have HF : Hid (s1.fs = s.fs) := hfs
  have HY : Hid (Y = if e0 ≠ 0 then ([], e0) else (lst x s.fs, 0)) := hy
  generalize hPP : PList p m V q Y s1 z1 w = PP at *
  clear h hz hb hx cA hfs hy hY he0 hs1 hz1 hPP
  go_enter Try.func20, Try.ntmps20
  go_wp2_with fail
  go_at_call 32
  refine cA1.mono ?_
  rintro e w1 ⟨rfl, F1, h1, hz1, u1⟩
  have HD1 : Hid (PX w1 p m V q s1 F1) := h1
  have HZ1 : Hid (FZ w1 q z1) := hz1
  have HU1 : Hid (Upd (Mk p q) w w1) := u1
  clear cA1 hz1 u1
  by_cases k0 : e0 = 0
  · subst k0
    have cP := paths_any p m V q s1 F1 x w1 h1 HX.out
    rw [HF.out] at cP
    have HE : Hid (Y = (lst x s.fs, 0)) := by unfold Hid; rw [HY.out, if_neg (fun k => k rfl)]
    clear h1
    go_wp2_with fail
    go_at_call 37
    refine cP.mono ?_
    rintro e w2 ⟨v, M, rfl, ho, hm, hbl⟩
    have HO : Hid (SOwn w2 w1.heap.size v M) := ho
    have HM : Hid ((M.map fun y => y.s) = lst x s.fs) := hm
    have HBL : Hid (Below w1.heap.size w1 w2) := hbl
    clear cP ho hm hbl
    go_wp2
    exact HT.out v M 0 F1 _ (HO.out.mono HU1.out.size) (by rw [HE.out, HM.out]) (HD1.out.keep HBL.out) (HZ1.out.keep HBL.out) (HU1.out.after HBL.out)
  · have k1 : (e0 == 0) = false := by simpa using k0
    have HE : Hid (Y = ([], e0)) := by unfold Hid; rw [HY.out, if_pos k0]
    clear h1 k0
    go_wp2
    exact HT.out _ [] e0 F1 _ (SOwn.start _ _) HE.out HD1.out HZ1.out HU1.out
/-- Files. -/
theorem lst_all (l : List Fl) : lst ⟨#[]⟩ l = l.map fun f => f.path := by
  unfold lst
  congr 1
  rw [List.filter_eq_self]
  intro f _
  exact pre_nil _
set_option maxHeartbeats 4000000 in
theorem files_any (p m : Nat) (V : List Fv) (q : Option Nat) (s : St) (F : Int) (w : World) (h : PX w p m V q s F) :
    Calls Try.prog 28 #[.pointer (some ⟨p, 0, none⟩)] w (PathsEnd (s.fs.map fun f => f.path) w) := by
  have cP := paths_any p m V q s F ⟨#[]⟩ w h (Nat.zero_le _)
  rw [lst_all] at cP
  generalize hPP : PathsEnd (s.fs.map fun f => f.path) w = PP at *
  have HT : Hid (∀ e w', PathsEnd (s.fs.map fun f => f.path) w e w' → PP e w') := fun e w' k => by rw [← hPP]; exact k
  rw [← hPP] at cP
  have cP1 : Calls Try.prog 37 #[.pointer (some ⟨p, 0, none⟩), .string ⟨#[]⟩] w fun e w' => ∃ v, e = .returned v ∧ Hid (PP (.returned v) w') := cP.mono fun e w' k => by
    obtain ⟨v, M, e1, r⟩ := k
    exact ⟨v, e1, HT.out _ _ ⟨v, M, rfl, r⟩⟩
  clear h cP hPP HT
  go_enter Try.func28, Try.ntmps28
  go_wp2_with fail
  go_at_call 37
  refine cP1.mono ?_
  rintro e w1 ⟨v, rfl, HH⟩
  clear cP1
  go_wp2
  exact HH.out
end Go.Proofs.Ythkhkijdehbbmaa
