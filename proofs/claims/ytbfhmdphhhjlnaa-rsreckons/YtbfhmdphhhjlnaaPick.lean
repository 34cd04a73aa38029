/-
  What matrix.Rows does: the rows that are asked for, in that order, each in memory of its own; or nothing, and false.
-/
import Derived.Test.YtbfhmdphhhjlnaaOpen2
import Derived.Laws.MakeOwn
namespace Go.Proofs.Ytbfhmdphhhjlnaa
open Go.RowKit Gf
attribute [local go_sem ↓] Go.wp_at_zero Go.wp_at_succ

theorem ownB_new {w0 w : World} {n : Nat} {v : Value} {f : Nat → Nat} (h : w.ownsRow w0.heap.size 5 1 v n (bs f n)) (hn : 1 ≤ n) (hf : ∀ i, f i < 256) :
    ∃ g c, v = .slice (some ⟨g, 0, none⟩) n c ∧ NewRow w0 w (some ⟨g, 0, none⟩) n c f := by
  rcases h.2 with ⟨_, e⟩ | ⟨g, cap, cur, e, hg, _, hnc, _⟩
  · omega
  · subst e
    have hc : ∀ j, j < n → w.cell? ⟨g, j, none⟩ = some (.int .u8 ((f j : Nat) : Int)) := fun j hj => by rw [h.cellAt j (by omega), bs_at hj]
    refine ⟨g, cap, rfl, ⟨⟨hf, fun _ => ⟨g, 0, rfl, fun j hj => by rw [Nat.zero_add]; exact hc j hj⟩⟩, fun ad e => ?_, fun ad e j hj => ?_, fun e => by cases e⟩⟩
    · injection e with e; subst e
      exact ⟨rfl, hg, block_lt_of_cell (hc 0 (by omega))⟩
    · injection e with e; subst e
      exact h.frozenAt j

set_option maxRecDepth 100000 in
theorem clone_new (a : Option Addr) (n c : Nat) (f : Nat → Nat) (w : World) (h : Row w a n f) (hn : 1 ≤ n) (hl : n ≤ 140737488355328) :
    Calls Try.prog 65 #[.slice a n c] w fun e w' => ∃ a' c', e = .returned (.slice a' n c') ∧ NewRow w w' a' n c' f ∧ Below w.heap.size w w' := by
  obtain ⟨W, hW⟩ : ∃ W, W = w.alloc (.cells #[] 5) := ⟨_, rfl⟩
  have hb : Below w.heap.size w W := by rw [hW]; exact (Below.refl _ _).alloc (Nat.le_refl _) _
  have own : W.ownsRow w.heap.size 5 1 (.slice (some ⟨w.heap.size, 0, none⟩) 0 0) 0 (bs f 0) := by rw [hW]; exact World.ownsRow_lit (e := 5) (size := 1) w #[] 0 (Nat.le_refl _) (by unfold maxLen; omega) (by simp)
  obtain ⟨v, W2, hr, own2, _, hb2⟩ := appendB (c := c) own (h.keep hb) hn (by omega) (by have := hb.size; omega)
  rw [Nat.zero_add] at own2
  have e0 : bs (cat 0 f f) n = bs f n := by
    unfold bs; apply List.map_congr_left; intro i _; unfold cat; rw [if_neg (by omega), Nat.sub_zero]
  rw [e0] at own2
  obtain ⟨g, c', rfl, hnew⟩ := ownB_new own2 hn h.lt
  have HA : Hid (Sem.run Try.prog (Builtin.append_ #[30, 30] 30 #[.slice (some ⟨w.heap.size, 0, none⟩) 0 0, .slice a n c]) W = .ok (.slice (some ⟨g, 0, none⟩) n c') W2) := hr
  have HR : Hid (NewRow w W2 (some ⟨g, 0, none⟩) n c' f) := hnew
  have HB : Hid (Below w.heap.size w W2) := hb.trans hb2
  obtain ⟨b, o, rfl, _⟩ := h.lies (by omega)
  clear hr hnew own own2 hb hb2 h e0
  have q0 := eql_nil w ⟨b, o, none⟩ n c
  go_enter Try.func65, Try.ntmps65
  go_wp2_with (at_builtin; rw [← hW]; refine wpList_append_ran (by rfl) _ _ 30 (by rfl) _ _ _ _ (by rfl) (by rfl) HA.out ?_)
  go_wp2
  go_ret
  exact ⟨_, c', rfl, HR.out, HB.out⟩

/-- A slice that begins at a holds in w the n numbers g 0, g 1 .. -/
def IRow (w : World) (a : Option Addr) (n : Nat) (g : Nat → Int) : Prop := 0 < n → ∃ b o, a = some ⟨b, o, none⟩ ∧ ∀ i, i < n → w.cell? ⟨b, o + i, none⟩ = some (.int .i64 (g i))
theorem IRow.keep {w w' : World} {a : Option Addr} {n : Nat} {g : Nat → Int} (h : IRow w a n g) (hb : Below w.heap.size w w') : IRow w' a n g := fun hn => by
  obtain ⟨b, o, e, hc⟩ := h hn
  exact ⟨b, o, e, fun i hi => (hb.cell (p := ⟨b, o + i, none⟩) (block_lt_of_cell (hc i hi))).trans (hc i hi)⟩

/-- An empty slice of rows with room. -/
theorem Bld.empty {w : World} {base g c : Nat} (h : w.ownsRow base 30 1 (.slice (some ⟨g, 0, none⟩) 0 c) 0 []) (A : Nat → Option Addr) (L C : Nat → Nat) (F : Nat → Nat → Nat) : Bld w base (.slice (some ⟨g, 0, none⟩) 0 c) 0 A L C F :=
  ⟨h, fun i hi => absurd hi (by omega), fun i hi => absurd hi (by omega), fun i hi => absurd hi (by omega), fun i _ hi => absurd hi (by omega), fun i hi => absurd hi (by omega)⟩

set_option maxRecDepth 100000 in
set_option maxHeartbeats 2000000 in
theorem rows_any (a a' : Option Addr) (n m c c' : Nat) (A : Nat → Option Addr) (L C : Nat → Nat) (F : Nat → Nat → Nat) (g : Nat → Int) (w : World) (h : Mat w a n A L C F) (hi : IRow w a' m g) (hM : IsM n L) (m1 : 1 ≤ m) (m2 : m ≤ 255)
    (hg : ∀ i, i < m → -9223372036854775808 ≤ g i ∧ g i ≤ 9223372036854775807) :
    Calls Try.prog 46 #[.slice a n c, .slice a' m c'] w fun e w' =>
      (((∀ i, i < m → 0 ≤ g i ∧ g i < n) ∧ ∃ v, e = .returned (.tuple #[v, .bool true]) ∧ Built w' w.heap.size v m (fun _ => L 0) (fun i => F (g i).toNat)) ∨
       ((∃ i, i < m ∧ (g i < 0 ∨ (n : Int) ≤ g i)) ∧ e = .returned (.tuple #[.slice none 0 0, .bool false]))) ∧ Below w.heap.size w w' := by
  have cM := isMatrix_yes a n c A L C F w h hM
  have cS := isSide_any m w
  rw [decide_eq_true (by omega)] at cS
  obtain ⟨i27, hi27, hzz⟩ := Option.map_eq_some_iff.1 info27
  simp only [Prod.mk.injEq] at hzz
  obtain ⟨hz, hs, hby⟩ := hzz
  obtain ⟨W0, mk, own0, gr0⟩ := run_make_own (P := Try.prog) w w.heap.size 54 30 i27 (.slice none 0 0) 1 Try.underlying54 hi27 hz hs .i64 .i64 m (by rw [hby]; omega) (by unfold maxLen; omega) (Nat.le_refl _)
  have hb0 : Below w.heap.size w W0 := (Below.refl w.heap.size w).grown gr0 (Nat.le_refl _) (fun k hk => by cases hk)
  obtain ⟨n1, n2, l1, l2, hl⟩ := hM
  have HM : Hid (Mat w a n A (fun _ => L 0) C F) := h.even hl (by omega)
  obtain ⟨bi, oi, rfl, hci⟩ := hi (by omega)
  have Bi : bi < w.heap.size := block_lt_of_cell (hci 0 (by omega))
  have HC : Hid (∀ i, i < m → w.cell? ⟨bi, oi + i, none⟩ = some (.int .i64 (g i))) := hci
  have HG : Hid (∀ i, i < m → -9223372036854775808 ≤ g i ∧ g i ≤ 9223372036854775807) := hg
  obtain ⟨b, o, rfl, hc⟩ := h.lies (by omega)
  have Bb : b < w.heap.size := block_lt_of_cell (hc 0 (by omega))
  have HO : Hid (Built W0 w.heap.size (.slice (some ⟨w.heap.size, 0, none⟩) 0 m) 0 (fun _ => L 0) (fun i => F (g i).toNat)) := ⟨_, _, Bld.empty own0 (fun _ => none) _ (fun _ => 0) _⟩
  generalize L 0 = l at *
  clear h hi hl hci hg hc own0 gr0 hz hs hby hi27
  go_enter Try.func46, Try.ntmps46
  go_wp2_with fail
  go_at_call 60
  refine cM.mono ?_
  rintro e w' ⟨rfl, rfl⟩
  go_wp2_with fail
  go_at_call 64
  refine cS.mono ?_
  rintro e w' ⟨rfl, rfl⟩
  clear cM cS
  go_wp2
  clear mk
  go_loopw [6, 23] (fun v i wr => ∃ k : Nat, k ≤ m ∧ i = .int .i64 k ∧ (∀ j, j < k → 0 ≤ g j ∧ g j < n) ∧ Built wr w.heap.size v k (fun _ => l) (fun i => F (g i).toNat) ∧ Below w.heap.size w wr) (fun _ i _ => m - (intOf i).toNat)
  case atStart => exact ⟨0, by omega, rfl, fun j hj => absurd hj (by omega), HO.out, hb0⟩
  case round =>
    obtain ⟨k, hk, rfl, hin, hbl, hb⟩ := hrel
    clear HO hb0
    have HIN : Hid (∀ j, j < k → 0 ≤ g j ∧ g j < n) := hin
    clear hin
    by_cases hlt : k < m
    · have ik : (k : Int) < (m : Int) := by omega
      have ck := (hb.cell (p := ⟨bi, oi + k, none⟩) Bi).trans (HC.out k hlt)
      have hgk := HG.out k hlt
      by_cases hin : 0 ≤ g k ∧ g k < n
      · obtain ⟨r, hr⟩ : ∃ r : Nat, g k = (r : Int) := ⟨(g k).toNat, by omega⟩
        have hrn : r < n := by omega
        have irn : (r : Int) < (n : Int) := by omega
        rw [hr] at ck
        have hM := HM.out.keep hb
        have ch : ∀ i, i < n → wr.cell? ⟨b, o + i, none⟩ = some (.slice (A i) l (C i)) := by
          obtain ⟨b', o', e, hh⟩ := hM.lies (by omega)
          injection e with e; injection e with e1 e2; subst e1 e2
          exact hh
        have cr := ch r hrn
        have HBL : Hid (Built wr w.heap.size _ k (fun _ => l) (fun i => F (g i).toNat)) := hbl
        have cl := clone_new (A r) l (C r) (F r) wr (hM.row r hrn) l1 (by omega)
        have lF := HM.out.lt
        have hin' : Hid (∀ j, j < k + 1 → 0 ≤ g j ∧ g j < n) := fun j hj => by
          by_cases e : j = k
          · rw [e]; exact hin
          · exact HIN.out j (by omega)
        have HFr : Hid (∀ j, F r j = F (g k).toNat j) := fun j => by rw [hr]; rfl
        clear hin hbl hM ch hr hgk lF
        generalize hAr : A r = ar at *
        generalize hCr : C r = xr at *
        clear hAr hCr
        go_wp2_with fail
        go_at_call 65
        refine cl.mono ?_
        rintro e w1 ⟨a1, c1, rfl, hnew, hb1⟩
        obtain ⟨v', W2, hr2, hbl2, hb2⟩ := HBL.out.push (f := F r) Try.underlying54 hb1 hb.size hnew (fun j _ => HFr.out j) (fun i j => HM.out.lt _ _) (by omega)
        have R2 : Hid _ := hr2
        have HB : Hid (Built W2 w.heap.size v' (k + 1) (fun _ => l) (fun i => F (g i).toNat)) := hbl2
        have HW : Hid (Below w.heap.size w W2) := hb.trans hb2
        clear hr2 hbl2 hb2 hb1 hb hnew cl HBL
        go_wp2_with (at_builtin; refine wpList_append_ran (by rfl) _ _ 54 (by rfl) _ _ _ _ (by rfl) (by rfl) R2.out ?_)
        go_wp2
        go_round
        case rel => exact ⟨k + 1, by omega, by go_num, hin'.out, HB.out, HW.out⟩
        case measure => simp [intOf]; omega
      · have HN : Hid (∃ i, i < m ∧ (g i < 0 ∨ (n : Int) ≤ g i)) := ⟨k, hlt, by omega⟩
        generalize g k = x at *
        by_cases hx : x < 0
        · clear hin hbl
          go_wp2
          go_ret2
          exact ⟨.inr ⟨HN.out, rfl⟩, hb⟩
        · have hx2 : (n : Int) ≤ x := by omega
          clear hin hbl
          go_wp2
          go_ret2
          exact ⟨.inr ⟨HN.out, rfl⟩, hb⟩
    · have : k = m := by omega
      subst this
      have HB : Hid (Built wr w.heap.size _ k (fun _ => l) (fun i => F (g i).toNat)) := hbl
      clear hbl
      go_wp2
      go_ret2
      exact ⟨.inl ⟨HIN.out, _, rfl, HB.out⟩, hb⟩

set_option maxRecDepth 100000 in
theorem rows_none (a : Option Addr) (n c : Nat) (A : Nat → Option Addr) (L C : Nat → Nat) (F : Nat → Nat → Nat) (w : World) (h : Mat w a n A L C F) (hM : IsM n L) :
    Calls Try.prog 46 #[.slice a n c, .slice none 0 0] w fun e w' => e = .returned (.tuple #[.slice none 0 0, .bool false]) ∧ w = w' := by
  have cM := isMatrix_yes a n c A L C F w h hM
  have cS := isSide_any 0 w
  rw [decide_eq_false (by omega)] at cS
  clear h hM
  go_enter Try.func46, Try.ntmps46
  go_wp2_with fail
  go_at_call 60
  refine cM.mono ?_
  rintro e w' ⟨rfl, rfl⟩
  go_wp2_with fail
  go_at_call 64
  refine cS.mono ?_
  rintro e w' ⟨rfl, rfl⟩
  go_wp2
  go_ret2
  exact ⟨rfl, rfl⟩
end Go.Proofs.Ytbfhmdphhhjlnaa
