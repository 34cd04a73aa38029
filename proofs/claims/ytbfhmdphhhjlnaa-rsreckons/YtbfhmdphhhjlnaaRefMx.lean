/-
  What the document's own Copy, Unit and Vandermonde do.
-/
import Derived.Test.YtbfhmdphhhjlnaaBld
namespace Go.Proofs.Ytbfhmdphhhjlnaa
open Go.RowKit Gf
attribute [local go_sem ↓] Go.wp_at_zero Go.wp_at_succ

/-- Rows of rows that were built, whatever their addresses. -/
def Built (w : World) (base : Nat) (v : Value) (k : Nat) (L : Nat → Nat) (F : Nat → Nat → Nat) : Prop := ∃ A C, Bld w base v k A L C F

theorem Built.push {t : TypeId} (ht : Try.prog.underlying t = some (.slice 30)) {w w1 : World} {base k c : Nat} {v : Value} {L : Nat → Nat} {F : Nat → Nat → Nat} {a : Option Addr} {f : Nat → Nat}
    (b : Built w base v k L F) (hb : Below w.heap.size w w1) (hbase : base ≤ w.heap.size) (r : NewRow w w1 a (L k) c f) (hf : ∀ j, j < L k → f j = F k j) (hF : B F) (hk : k + 1 ≤ 1000) :
    ∃ v' W, Sem.run Try.prog (Builtin.append_ #[t, t] t #[v, .slice (some ⟨w1.heap.size, 0, none⟩) 1 1]) (w1.alloc (.cells #[.slice a (L k) c] 30)) = .ok v' W ∧ Built W base v' (k + 1) L F ∧ Below base w W := by
  obtain ⟨A, C, b⟩ := b
  have r' : NewRow w w1 a (L k) c (F k) := ⟨⟨hF k, fun hn => by
    obtain ⟨b, o, e, hc⟩ := r.row.lies hn
    exact ⟨b, o, e, fun i hi => by rw [hc i hi, hf i hi]⟩⟩, r.blk, r.soft, r.nil⟩
  obtain ⟨v', W, hr, b', hb'⟩ := b.push ht hb hbase r' hk
  refine ⟨v', W, hr, ⟨upd A k a, upd C k c, b'.congr (fun _ _ => rfl) (fun i hi => ?_) (fun _ _ => rfl) (fun i hi => ?_)⟩, hb'⟩
  · by_cases e : i = k
    · subst e; rw [upd_at]
    · rw [upd_ne _ _ e]
  · by_cases e : i = k
    · subst e; rw [upd_at]
    · rw [upd_ne _ _ e]

theorem fresh_new {w W : World} {a : Option Addr} {n c : Nat} {f : Nat → Nat} (h : Fresh w.heap.size W a n f) (hf : ∀ i, f i < 256) (hz : n = 0 → a = none ∧ c = 0) : NewRow w W a n c f := by
  refine ⟨h.row hf, fun ad e => ?_, fun ad e j hj => ?_, fun e => ?_⟩
  · by_cases hn : n = 0
    · rw [(hz hn).1] at e; cases e
    · obtain ⟨g, e', hg, hc, _⟩ := h (by omega)
      rw [e'] at e; injection e with e; subst e
      exact ⟨rfl, hg, block_lt_of_cell (hc 0 (by omega))⟩
  · by_cases hn : n = 0
    · omega
    · obtain ⟨g, e', hg, hc, hs⟩ := h (by omega)
      rw [e'] at e; injection e with e; subst e
      exact hs j hj
  · by_cases hn : n = 0
    · exact ⟨hn, (hz hn).2⟩
    · obtain ⟨g, e', _⟩ := h (by omega)
      rw [e'] at e; cases e

/-- append(nil, row...): as 'appended', and a row of nothing is nil. -/
theorem appended0 {w : World} {a : Option Addr} {n c : Nat} {f : Nat → Nat} (h : Row w a n f) (hnil : a = none → n = 0 ∧ c = 0) (hn : n ≤ 140737488355328) :
    ∃ a' c' W, Sem.run Try.prog (Builtin.append_ #[30, 30] 30 #[.slice none 0 0, .slice a n c]) w = .ok (.slice a' n c') W ∧ NewRow w W a' n c' f ∧ Below w.heap.size w W := by
  by_cases hz : n = 0
  · subst hz
    have h0 := World.ownsRow_nil w w.heap.size 5 1
    obtain ⟨i, hi, hzz⟩ := Option.map_eq_some_iff.1 info5
    simp only [Prod.mk.injEq] at hzz
    obtain ⟨hz, hs, hb⟩ := hzz
    cases a with
    | none =>
      obtain ⟨_, rfl⟩ := hnil rfl
      exact ⟨none, 0, w, run_append_owned_none (P := Try.prog) w w.heap.size 30 30 5 i 1 Try.underlying30 hi _ 0 [] h0, ⟨⟨h.lt, fun h => absurd h (by omega)⟩, fun _ e => (by cases e), fun _ e => (by cases e), fun _ => ⟨rfl, rfl⟩⟩, Below.refl _ _⟩
    | some ad =>
      obtain ⟨v', w', hr, hown, hgrow, hnl, hblk⟩ := run_append_own_at (P := Try.prog) w w.heap.size 30 30 5 i (.int .u8 0) 1 1 Try.underlying30 hi hz hs hb rfl (by omega) (.slice none 0 0) 0 [] h0 ad 0 c [] (by simp) (fun j u hu => by simp at hu) (fun v hv => by simp at hv) (by unfold maxLen; omega) (by omega) (Nat.le_refl _)
      have e := hnl.2 ⟨rfl, rfl⟩
      subst e
      exact ⟨none, 0, w', hr, ⟨⟨h.lt, fun h => absurd h (by omega)⟩, fun _ e => (by cases e), fun _ e => (by cases e), fun _ => ⟨rfl, rfl⟩⟩, (Below.refl w.heap.size w).grown hgrow (Nat.le_refl _) (fun k hk => by simp [Value.ownBlock] at hk)⟩
  · obtain ⟨a', c', W, hr, hf, hb⟩ := appended (c := c) h hnil hn
    exact ⟨a', c', W, hr, fresh_new hf h.lt (fun q => absurd q hz), hb⟩

set_option maxRecDepth 100000 in
set_option maxHeartbeats 1000000 in
theorem copy_any (a : Option Addr) (n c : Nat) (A : Nat → Option Addr) (L C : Nat → Nat) (F : Nat → Nat → Nat) (w : World) (h : Mat w a n A L C F) (hn : n ≤ 255) (hL : ∀ i, i < n → L i ≤ 140737488355328) :
    Calls Try.prog 20 #[.slice a n c] w fun e w' => ∃ v, e = .returned v ∧ Built w' w.heap.size v n L F ∧ Below w.heap.size w w' := by
  have HM : Hid (Mat w a n A L C F) := h
  have HL : Hid (∀ i, i < n → L i ≤ 140737488355328) := hL
  clear h hL
  go_enter Try.func20, Try.ntmps20
  go_wp2
  go_loopw [3, 4] (fun v i wr => ∃ k : Nat, k ≤ n ∧ i = .int .i64 k ∧ Built wr w.heap.size v k L F ∧ Below w.heap.size w wr) (fun _ i _ => n - (intOf i).toNat)
  case atStart => exact ⟨0, by omega, rfl, ⟨_, _, Bld.start w w.heap.size A L C F⟩, Below.refl _ _⟩
  case round =>
    obtain ⟨k, hk, rfl, hbl, hb⟩ := hrel
    by_cases hlt : k < n
    · have ik : (k : Int) < (n : Int) := by omega
      have hM := HM.out.keep hb
      obtain ⟨b, o, rfl, hc⟩ := hM.lies (by omega)
      have ck := hc k hlt
      obtain ⟨a', c', W, hr1, hnew, hb1⟩ := appended0 (c := C k) (hM.row k hlt) (hM.nil k hlt) (HL.out k hlt)
      obtain ⟨v', W2, hr2, hbl2, hb2⟩ := hbl.push Try.underlying27 hb1 hb.size hnew (fun _ _ => rfl) HM.out.lt (by omega)
      have R1 : Hid _ := hr1
      have R2 : Hid _ := hr2
      have HB : Hid (Built W2 w.heap.size v' (k + 1) L F) := hbl2
      have HW : Hid (Below w.heap.size w W2) := hb.trans hb2
      clear hr1 hr2 hbl hbl2 hb2 hnew hb1 hb hM hc
      generalize A k = ak at *
      generalize C k = cck at *
      generalize L k = lk at *
      go_wp2_with (at_builtin; first | refine wpList_append_ran (by rfl) _ _ 30 (by rfl) _ _ _ _ (by rfl) (by rfl) R1.out ?_ | refine wpList_append_ran (by rfl) _ _ 27 (by rfl) _ _ _ _ (by rfl) (by rfl) R2.out ?_)
      go_wp2
      go_round
      case rel => exact ⟨k + 1, by omega, by go_num, HB.out, HW.out⟩
      case measure => simp [intOf]; omega
    · have : k = n := by omega
      subst this
      have HB : Hid _ := hbl
      clear hbl
      go_wp2
      go_ret
      exact ⟨_, rfl, HB.out, hb⟩

/-- A row of bytes that fills, soft, the block g. -/
structure Made (w : World) (g n : Nat) (f : Nat → Nat) : Prop where
  cell : ∀ j, j < n → w.cell? ⟨g, j, none⟩ = some (.int .u8 ((f j : Nat) : Int))
  soft : ∀ j, j < n → w.frozen? ⟨g, j, none⟩ = false
theorem Made.start (w : World) (n : Nat) : Made (w.alloc (.cells (madeCells #[.int .u8 0] n) 5)) w.heap.size n (fun _ => 0) :=
  ⟨fun j hj => by rw [World.cell?_alloc_new, ← Array.getElem?_toList, toList_madeCells_one, List.getElem?_replicate, if_pos (by omega)]; rfl, fun _ _ => World.frozen?_alloc_new _ _ _ _⟩
theorem Made.put {w : World} {g n k x : Nat} {f : Nat → Nat} (m : Made w g n f) (hk : k < n) : Made (w.setCell ⟨g, k, none⟩ (.int .u8 ((x : Nat) : Int))) g n (upd f k x) := by
  refine ⟨fun j hj => ?_, fun j hj => by rw [World.frozen?_setCell]; exact m.soft j hj⟩
  by_cases e : j = k
  · subst e; rw [cell_same (m.cell j hj), upd_at]
  · rw [cell_other (fun q => e q.symm), upd_ne _ _ e]; exact m.cell j hj
theorem Made.congr {w : World} {g n : Nat} {f f' : Nat → Nat} (m : Made w g n f) (e : ∀ j, j < n → f j = f' j) : Made w g n f' := ⟨fun j hj => by rw [m.cell j hj, e j hj], m.soft⟩
theorem Made.new {w W : World} {g n c : Nat} {f : Nat → Nat} (m : Made W g n f) (hg : w.heap.size ≤ g) (hn : 1 ≤ n) (hf : ∀ j, f j < 256) : NewRow w W (some ⟨g, 0, none⟩) n c f :=
  ⟨⟨hf, fun _ => ⟨g, 0, rfl, fun j hj => by rw [Nat.zero_add]; exact m.cell j hj⟩⟩, fun ad e => by injection e with e; subst e; exact ⟨rfl, hg, block_lt_of_cell (m.cell 0 (by omega))⟩, fun ad e j hj => by injection e with e; subst e; exact m.soft j hj, fun e => by cases e⟩

set_option maxRecDepth 100000 in
set_option maxHeartbeats 1000000 in
theorem runit_any (n : Nat) (w : World) (n1 : 1 ≤ n) (n2 : n ≤ 255) :
    Calls Try.prog 51 #[.int .i64 n] w fun e w' => ∃ v, e = .returned v ∧ Built w' w.heap.size v n (fun _ => n) one ∧ Below w.heap.size w w' := by
  have mk := run_make_row' (P := Try.prog) 30 5 (.int .u8 0) 1 Try.underlying30 info5 rfl .i64 .i64 n (by omega) (by omega)
  go_enter Try.func51, Try.ntmps51
  go_wp2
  go_loopw [3, 4] (fun v i wr => ∃ k : Nat, k ≤ n ∧ i = .int .i64 k ∧ Built wr w.heap.size v k (fun _ => n) one ∧ Below w.heap.size w wr) (fun _ i _ => n - (intOf i).toNat)
  case atStart => exact ⟨0, by omega, rfl, ⟨_, _, Bld.start w w.heap.size (fun _ => none) (fun _ => n) (fun _ => 0) one⟩, Below.refl _ _⟩
  case round =>
    obtain ⟨k, hk, rfl, hbl, hb⟩ := hrel
    by_cases hlt : k < n
    · have ik : (k : Int) < (n : Int) := by omega
      obtain ⟨W, hW⟩ : ∃ W, W = wr.alloc (.cells (madeCells #[.int .u8 0] n) 5) := ⟨_, rfl⟩
      have mkr : Sem.run Try.prog (Instr.makeSlice 30 (.int .i64 (n : Int)) (.int .i64 (n : Int))) wr = .ok (.slice (some ⟨wr.heap.size, 0, none⟩) n n) W := by rw [hW]; exact mk wr
      have m0 : Made W wr.heap.size n (fun _ => 0) := by rw [hW]; exact Made.start wr n
      have hb0 : Below wr.heap.size wr W := by rw [hW]; exact (Below.refl _ _).alloc (Nat.le_refl _) _
      have m1 : Made (W.setCell ⟨wr.heap.size, k, none⟩ (.int .u8 ((1 : Nat) : Int))) wr.heap.size n (one k) := (m0.put hlt).congr fun j hj => by
        unfold upd one
        by_cases e : j = k
        · rw [if_pos e, if_pos e.symm]
        · rw [if_neg e, if_neg (fun q => e q.symm)]
      have hb1 : Below wr.heap.size wr (W.setCell ⟨wr.heap.size, k, none⟩ (.int .u8 ((1 : Nat) : Int))) := hb0.setCell (p := ⟨wr.heap.size, k, none⟩) (Nat.le_refl _) _
      have c0 := m0.cell k hlt
      have f0 := m0.soft k hlt
      obtain ⟨v', W2, hr2, hbl2, hb2⟩ := hbl.push Try.underlying27 hb1 hb.size (m1.new (c := n) (Nat.le_refl _) n1 (one_B k)) (fun _ _ => rfl) one_B (by omega)
      have hsz : (W.setCell ⟨wr.heap.size, k, none⟩ (.int .u8 ((1 : Nat) : Int))).heap.size = W.heap.size := by simp [World.setCell]
      rw [hsz] at hr2
      have R2 : Hid _ := hr2
      clear hsz
      have HB : Hid (Built W2 w.heap.size v' (k + 1) (fun _ => n) one) := hbl2
      have HW : Hid (Below w.heap.size w W2) := hb.trans hb2
      clear hr2 hbl hbl2 hb2 hb1 hb hb0 m0 m1 hW mk
      go_wp2_with (at_builtin; refine wpList_append_ran (by rfl) _ _ 27 (by rfl) _ _ _ _ (by rfl) (by rfl) R2.out ?_)
      go_wp2
      go_round
      case rel => exact ⟨k + 1, by omega, by go_num, HB.out, HW.out⟩
      case measure => simp [intOf]; omega
    · have : k = n := by omega
      subst this
      have HB : Hid _ := hbl
      clear hbl mk
      go_wp2
      go_ret
      exact ⟨_, rfl, HB.out, hb⟩

set_option maxRecDepth 100000 in
set_option maxHeartbeats 2000000 in
theorem rvander_any (n m : Nat) (w : World) (n1 : 1 ≤ n) (n2 : n ≤ 255) (m1 : 1 ≤ m) (m2 : m ≤ 255) :
    Calls Try.prog 47 #[.int .i64 n, .int .i64 m] w fun e w' => ∃ v, e = .returned v ∧ Built w' w.heap.size v n (fun _ => m) V ∧ Below w.heap.size w w' := by
  have mk := run_make_row' (P := Try.prog) 30 5 (.int .u8 0) 1 Try.underlying30 info5 rfl .i64 .i64 m (by omega) (by omega)
  go_enter Try.func47, Try.ntmps47
  go_wp2
  go_loopw [5, 6] (fun v i wr => ∃ k : Nat, k ≤ n ∧ i = .int .i64 k ∧ Built wr w.heap.size v k (fun _ => m) V ∧ Below w.heap.size w wr) (fun _ i _ => n - (intOf i).toNat)
  case atStart => exact ⟨0, by omega, rfl, ⟨_, _, Bld.start w w.heap.size (fun _ => none) (fun _ => m) (fun _ => 0) V⟩, Below.refl _ _⟩
  case round =>
    obtain ⟨k, hk, rfl, hbl, hb⟩ := hrel
    rename World => wo
    by_cases hlt : k < n
    · have ik : (k : Int) < (n : Int) := by omega
      obtain ⟨W, hW⟩ : ∃ W, W = wo.alloc (.cells (madeCells #[.int .u8 0] m) 5) := ⟨_, rfl⟩
      have mkr : Sem.run Try.prog (Instr.makeSlice 30 (.int .i64 (m : Int)) (.int .i64 (m : Int))) wo = .ok (.slice (some ⟨wo.heap.size, 0, none⟩) m m) W := by rw [hW]; exact mk wo
      have M0 : Hid (Made W wo.heap.size m (fun _ => 0)) := by rw [hW]; exact Made.start wo m
      have hb0 : Below wo.heap.size wo W := by rw [hW]; exact (Below.refl _ _).alloc (Nat.le_refl _) _
      have HBL : Hid (Built wo w.heap.size _ k (fun _ => m) V) := hbl
      clear hW mk hbl
      obtain ⟨G, hG⟩ : ∃ G, wo.heap.size = G := ⟨_, rfl⟩
      have HG : Hid (wo.heap.size = G) := hG
      rw [hG] at mkr M0 hb0
      clear hG
      go_wp2
      clear mkr
      go_loopw [8] (fun i wr => ∃ t : Nat, t ≤ m ∧ i = .int .i64 t ∧ Made wr G m (fun j => if j < t then V k j else 0) ∧ Below G wo wr) (fun i _ => m - (intOf i).toNat)
      case atStart => exact ⟨0, by omega, rfl, M0.out.congr fun j _ => by rw [if_neg (by omega)], hb0⟩
      case round =>
        obtain ⟨t, ht, rfl, hmd, hbt⟩ := hrel
        clear M0 hb0
        by_cases hlt2 : t < m
        · have it : (t : Int) < (m : Int) := by omega
          have c0 := hmd.cell t hlt2
          rw [if_neg (by omega)] at c0
          have f0 := hmd.soft t hlt2
          have cP := fun w => rpow_any k t w (by omega) (by omega) (by omega)
          rw [pw_P' (by omega) (by omega)] at cP
          have lP := P_lt (a := k) t
          have H2 : Hid (Made (wr.setCell ⟨G, t, none⟩ (.int .u8 ((P k t : Nat) : Int))) G m (fun j => if j < t + 1 then V k j else 0)) := (hmd.put hlt2).congr fun j hj => by
            unfold upd
            by_cases e : j = t
            · subst e; rw [if_pos rfl, if_pos (by omega)]; rfl
            · rw [if_neg e]
              dsimp only
              by_cases q : j < t
              · rw [if_pos q, if_pos (by omega)]
              · rw [if_neg q, if_neg (by omega)]
          have HB2 : Hid (Below G wo (wr.setCell ⟨G, t, none⟩ (.int .u8 ((P k t : Nat) : Int)))) := hbt.setCell (p := ⟨G, t, none⟩) (Nat.le_refl _) _
          clear hmd hbt
          generalize P k t = x at *
          go_wp2_with fail
          go_at_call 66
          refine (cP _).mono ?_
          rintro e w' ⟨rfl, rfl⟩
          go_wp2
          go_round
          case rel => exact ⟨t + 1, by omega, by go_num, H2.out, HB2.out⟩
          case measure => simp [intOf]; omega
        · have : t = m := by omega
          subst this
          have hmd' : Made wr wo.heap.size t (V k) := by rw [HG.out]; exact hmd.congr fun j hj => by rw [if_pos hj]
          have hbt' : Below wo.heap.size wo wr := by rw [HG.out]; exact hbt
          obtain ⟨v', W2, hr2, hbl2, hb2⟩ := HBL.out.push (c := t) Try.underlying27 hbt' hb.size (hmd'.new (Nat.le_refl _) m1 (fun j => P_lt _)) (fun _ _ => rfl) V_B (by omega)
          rw [HG.out] at hr2
          have R2 : Hid _ := hr2
          have HB : Hid (Built W2 w.heap.size v' (k + 1) (fun _ => t) V) := hbl2
          have HW : Hid (Below w.heap.size w W2) := hb.trans hb2
          clear hr2 hbl2 hb2 hb hmd hmd' hbt hbt' HBL
          go_wp2_with (at_builtin; refine wpList_append_ran (by rfl) _ _ 27 (by rfl) _ _ _ _ (by rfl) (by rfl) R2.out ?_)
          go_wp2
          go_round
          case rel => exact ⟨k + 1, by omega, by go_num, HB.out, HW.out⟩
          case measure => simp [intOf]; omega
    · have : k = n := by omega
      subst this
      have HB : Hid _ := hbl
      clear hbl mk
      go_wp2
      go_ret
      exact ⟨_, rfl, HB.out, hb⟩
end Go.Proofs.Ytbfhmdphhhjlnaa
