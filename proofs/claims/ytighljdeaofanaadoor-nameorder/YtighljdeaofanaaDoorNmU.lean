/-
  What the document's Unpath of layer 6 answers.
-/
import Derived.Test.YtighljdeaofanaaDoorNmR
import Derived.Test.YtighljdeaofanaaDoorByt
namespace Go.Proofs.YtighljdeaofanaaDoor
open Go.RowKit Nm
attribute [local go_sem ↓] Go.wp_at_zero Go.wp_at_succ
set_option linter.unusedVariables false

theorem own_conv {w : World} {base n : Nat} {v : Value} {f : Nat → Nat} (h : Own w base v n f) (hf : ∀ i, f i < 256) :
    Sem.run Tryd.prog (convert 30 9 v) w = .ok (.string (str f n)) w := by
  by_cases hn : 1 ≤ n
  · obtain ⟨g, c, rfl, _, _, _, r⟩ := h.row hn hf
    exact conv_row r (fun e => by cases e)
  · have : n = 0 := by omega
    subst this
    rcases h.2 with ⟨e, _⟩ | ⟨g, cap, cur, e, _⟩
    · rw [e]; exact conv_row ⟨hf, fun h => absurd h (by omega)⟩ (fun _ => rfl)
    · rw [e]; exact conv_row ⟨hf, fun h => absurd h (by omega)⟩ (fun _ => rfl)
/-- The byte i of what comes of the path l. -/
def ub (l : List UInt8) (i : Nat) : UInt8 := UInt8.ofNat (16 * dg (l.getD (2 * i) 0) + dg (l.getD (2 * i + 1) 0))
def ubn (l : List UInt8) (i : Nat) : Nat := (ub l i).toNat
theorem ubn_lt (l : List UInt8) (i : Nat) : ubn l i < 256 := (ub l i).toNat_lt
theorem tx_ub (l : List UInt8) (k : Nat) : tx (str (ubn l) k) = (List.range k).map (ub l) := by
  unfold tx str
  rw [strOfNums_data, List.map_map]
  apply List.map_congr_left
  intro i _
  show UInt8.ofNat ((((ub l i).toNat : Nat) : Int)).toNat = _
  rw [Int.toNat_natCast, UInt8.ofNat_toNat]
theorem tx_getD (s : ByteArray) (k : Nat) (h : k < s.size) : (tx s).getD k 0 = s[k] := by
  unfold tx
  rw [List.getD_eq_getElem?_getD, List.getElem?_eq_getElem (by simpa using h)]
  rfl
theorem unp_odd : ∀ (n : Nat) (l : List UInt8), l.length = 2 * n + 1 → unp l = none
  | 0, l, h => by
    match l, h with
    | [_], _ => rfl
  | n + 1, l, h => by
    match l, h with
    | x :: y :: t, h =>
      rw [unp, unp_odd n t (by simp at h; omega)]
      split <;> rfl

set_option maxRecDepth 100000 in
set_option maxHeartbeats 1000000 in
theorem runp_any (s : ByteArray) (w : World) (hs : s.size ≤ 1000000) :
    Calls Tryd.prog 14 #[.string s] w fun e w' => ∃ (r : ByteArray) (ok : Bool), e = .returned (.tuple #[.string r, .bool ok]) ∧ unp (tx s) = (if ok then some (tx r) else none) ∧ (ok = false → tx r = []) ∧ Below w.heap.size w w' := by
  obtain ⟨n, hn⟩ : ∃ n, s.size / 2 = n := ⟨_, rfl⟩
  by_cases ho : s.size % 2 = 1
  · have HN : Hid (unp (tx s) = none) := unp_odd n _ (by rw [tx_length]; omega)
    have i1 : (s.size : Int) % 2 = 1 := by omega
    have i2 : Int.tmod (s.size : Int) 2 = 1 := by rw [Int.tmod_eq_emod_of_nonneg (by omega)]; omega
    clear ho hn
    go_enter Tryd.func14, Tryd.ntmps14
    go_wp2
    go_ret2
    exact ⟨_, false, rfl, HN.out, fun _ => rfl, Below.refl _ _⟩
  · have h2 : s.size = 2 * n := by omega
    have i1 : (s.size : Int) % 2 = 0 := by omega
    have i2 : Int.tmod (s.size : Int) 2 = 0 := by rw [Int.tmod_eq_emod_of_nonneg (by omega)]; omega
    clear ho hn
    go_enter Tryd.func14, Tryd.ntmps14
    go_wp2
    go_loopw [4, 5] (fun v i wr => ∃ k : Nat, k ≤ n ∧ i = .int .i64 ((2 * k : Nat) : Int) ∧ Own wr w.heap.size v k (ubn (tx s)) ∧ unp (tx s) = (unp ((tx s).drop (2 * k))).map (fun l => (List.range k).map (ub (tx s)) ++ l) ∧ Below w.heap.size w wr) (fun _ i _ => s.size - (intOf i).toNat)
    case atStart => exact ⟨0, by omega, rfl, Own.start _ _ _, by simp, Below.refl _ _⟩
    case round =>
      obtain ⟨k, hk, rfl, hO, hu, hb⟩ := hrel
      by_cases hlt : k < n
      · have hs1 : 2 * k < s.size := by omega
        have hs2 : 2 * k + 1 < s.size := by omega
        rw [tx_drop s _ hs1, tx_drop s _ hs2] at hu
        have gx : (tx s).getD (2 * k) 0 = s[2 * k] := tx_getD s _ hs1
        have gy : (tx s).getD (2 * k + 1) 0 = s[2 * k + 1] := tx_getD s _ hs2
        have HK : Hid (∀ j, 2 * k = j → 2 * (k + 1) = j + 2) := fun j h => by omega
        have hub : ub (tx s) k = UInt8.ofNat (16 * dg s[2 * k] + dg s[2 * k + 1]) := by unfold ub; rw [gx, gy]
        clear gx gy
        obtain ⟨j, hj⟩ : ∃ j, 2 * k = j := ⟨_, rfl⟩
        have hj2 := HK.out j hj
        simp only [hj] at *
        obtain ⟨x, hxx⟩ : ∃ x, s[j] = x := ⟨_, rfl⟩
        obtain ⟨y, hyy⟩ : ∃ y, s[j + 1] = y := ⟨_, rfl⟩
        rw [hxx, hyy] at hu hub
        have hxt : (s[j].toNat : Int) = (x.toNat : Int) := by rw [hxx]
        have hyt : (s[j + 1].toNat : Int) = (y.toNat : Int) := by rw [hyy]
        have cx := fun W => digit_any x W
        have cy := fun W => digit_any y W
        have i3 : (j : Int) < (s.size : Int) := by omega
        have i4 : (j : Int) + 1 < (s.size : Int) := by omega
        clear hxx hyy
        by_cases dx : dg x < 16
        · by_cases dy : dg y < 16
          · simp only [if_pos dx] at cx
            simp only [if_pos dy] at cy
            have HU : Hid (unp (tx s) = (unp ((tx s).drop (j + 2))).map (fun l => (List.range (k + 1)).map (ub (tx s)) ++ l)) := by
              unfold Hid
              rw [hu, unp, if_pos ⟨dx, dy⟩, Option.map_map]
              congr 1
              funext l
              show _ ++ (_ :: l) = _
              rw [List.range_succ, List.map_append, List.append_assoc]
              show _ = _ ++ (ub (tx s) k :: l)
              rw [hub]
            have hz : ubn (tx s) k = 16 * dg x + dg y := by
              unfold ubn; rw [hub, UInt8.toNat_ofNat']; omega
            clear hu hub
            generalize dg x = p at *
            generalize dg y = m at *
            obtain ⟨z, ez⟩ : ∃ z, 16 * p + m = z := ⟨_, rfl⟩
            rw [ez] at hz
            have hz2 : z < 256 := by omega
            have b1 : (p : Int) < 16 := by omega
            have b2 : (m : Int) < 16 := by omega
            have b3 : 16 * (p : Int) + (m : Int) = (z : Int) := by omega
            have b4 : (z : Int) % 256 = (z : Int) := by omega
            have b5 : (z : Int) < 256 := by omega
            go_wp2
            go_quiet (((first | (go_at_call_of 28 (Value.int .u8 (x.toNat : Int)); refine (cx _).mono ?_) | (go_at_call_of 28 (Value.int .u8 (y.toNat : Int)); refine (cy _).mono ?_)); rintro e w9 ⟨rfl, rfl⟩; exact ⟨rfl, _, rfl⟩))
            obtain ⟨v', W, hr, ho2, hb2⟩ := push1 (hO.keep (below_drewN (Below.refl _ _) nq)) hz2 (by omega) (below_drewN hb nq).size hz
            have HA : Hid _ := hr
            have HO : Hid _ := ho2
            have HB : Hid (Below w.heap.size w W) := (below_drewN hb nq).trans hb2
            clear hr hO ho2 hb hb2
            go_wp2_with (at_builtin; refine wpList_append_ran (by rfl) _ _ 30 (by rfl) _ _ _ _ (by rfl) (by rfl) HA.out ?_)
            go_wp2
            go_round
            case rel => exact ⟨k + 1, by omega, by rw [hj2]; go_num, HO.out, by rw [hj2]; exact HU.out, HB.out⟩
            case measure => simp [intOf]; omega
          · simp only [if_pos dx] at cx
            simp only [if_neg dy] at cy
            have HU : Hid (unp (tx s) = none) := by
              unfold Hid
              rw [hu, unp, if_neg (fun h => dy h.2)]; rfl
            clear hu hub hO
            generalize dg x = p at *
            have b1 : (p : Int) < 16 := by omega
            go_wp2
            go_quiet (((first | (go_at_call_of 28 (Value.int .u8 (x.toNat : Int)); refine (cx _).mono ?_) | (go_at_call_of 28 (Value.int .u8 (y.toNat : Int)); refine (cy _).mono ?_)); rintro e w9 ⟨rfl, rfl⟩; exact ⟨rfl, _, rfl⟩))
            go_wp2
            go_ret2
            exact ⟨_, false, rfl, HU.out, fun _ => rfl, below_drewN hb _⟩
        · simp only [if_neg dx] at cx
          have HU : Hid (unp (tx s) = none) := by
            unfold Hid
            rw [hu, unp, if_neg (fun h => dx h.1)]; rfl
          obtain ⟨g, hg⟩ : ∃ g : Int, (if dg y < 16 then (dg y : Int) else -1) = g := ⟨_, rfl⟩
          simp only [hg] at cy
          clear hu hub hO hg
          go_wp2
          go_quiet (((first | (go_at_call_of 28 (Value.int .u8 (x.toNat : Int)); refine (cx _).mono ?_) | (go_at_call_of 28 (Value.int .u8 (y.toNat : Int)); refine (cy _).mono ?_)); rintro e w9 ⟨rfl, rfl⟩; exact ⟨rfl, _, rfl⟩))
          go_wp2
          go_ret2
          exact ⟨_, false, rfl, HU.out, fun _ => rfl, below_drewN hb _⟩
      · have hkn : k = n := by omega
        subst hkn
        have cv := own_conv hO (ubn_lt _)
        have HU : Hid (unp (tx s) = some (tx (str (ubn (tx s)) k))) := by
          unfold Hid
          rw [hu, List.drop_eq_nil_of_le (by rw [tx_length]; omega), tx_ub]
          show some (_ ++ []) = _
          rw [List.append_nil]
        obtain ⟨r, hr⟩ : ∃ r, str (ubn (tx s)) k = r := ⟨_, rfl⟩
        rw [hr] at cv HU
        have i3 : ¬ (((2 * k : Nat) : Int) < (s.size : Int)) := by omega
        clear hu hr hO
        go_wp2
        go_ret2
        exact ⟨r, .inr ⟨rfl, HU.out, hb⟩⟩
end Go.Proofs.YtighljdeaofanaaDoor
