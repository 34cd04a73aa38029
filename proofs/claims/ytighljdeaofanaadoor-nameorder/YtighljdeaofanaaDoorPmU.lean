/-
  What the program's Unpath of layer 6 answers.
-/
import Derived.Test.YtighljdeaofanaaDoorPmA
import Derived.Test.YtighljdeaofanaaDoorPmP
namespace Go.Proofs.YtighljdeaofanaaDoor
open Go.RowKit Nm
attribute [local go_sem ↓] Go.wp_at_zero Go.wp_at_succ
set_option linter.unusedVariables false

theorem wraps_i64' (n : Int) (h₀ : 0 ≤ n) (h₁ : n < 2 ^ 63) : IntKind.i64.wrap n = n := by rw [IntKind.wrap_i64]; omega
theorem or_low (p m : Nat) (hp : p < 16) (hm : m < 16) : 16 * p ||| m = 16 * p + m := by
  have h : ∀ p m : Fin 16, 16 * p.1 ||| m.1 = 16 * p.1 + m.1 := by decide
  exact h ⟨p, hp⟩ ⟨m, hm⟩

set_option maxRecDepth 100000 in
set_option maxHeartbeats 1000000 in
theorem unp_any (s : ByteArray) (w : World) (hs : s.size ≤ 1000000) :
    Calls Tryd.prog 10 #[.string s] w fun e w' => ∃ (r : ByteArray) (ok : Bool), e = .returned (.tuple #[.string r, .bool ok]) ∧ unp (tx s) = (if ok then some (tx r) else none) ∧ (ok = false → tx r = []) ∧ Below w.heap.size w w' := by
  obtain ⟨n, hn⟩ : ∃ n, s.size / 2 = n := ⟨_, rfl⟩
  by_cases ho : s.size % 2 = 1
  · have HN : Hid (unp (tx s) = none) := unp_odd n _ (by rw [tx_length]; omega)
    have i1 : (s.size : Int) % 2 = 1 := by omega
    have i2 : Int.tmod (s.size : Int) 2 = 1 := by rw [Int.tmod_eq_emod_of_nonneg (by omega)]; omega
    clear ho hn
    go_enter Tryd.func10, Tryd.ntmps10
    go_wp2
    go_ret2
    exact ⟨_, false, rfl, HN.out, fun _ => rfl, Below.refl _ _⟩
  · have h2 : s.size = 2 * n := by omega
    have i1 : (s.size : Int) % 2 = 0 := by omega
    have i2 : Int.tmod (s.size : Int) 2 = 0 := by rw [Int.tmod_eq_emod_of_nonneg (by omega)]; omega
    have i3 : Int.tdiv (s.size : Int) 2 = (n : Int) := by rw [Int.tdiv_eq_ediv_of_nonneg (by omega)]; omega
    have i4 : (s.size : Int) / 2 = (n : Int) := by omega
    obtain ⟨W0, mk, ho1, hb0⟩ := make0 w n (by omega) (ubn (tx s))
    have HO1 : Hid (Own W0 w.heap.size (.slice (some ⟨w.heap.size, 0, none⟩) 0 n) 0 (ubn (tx s))) := ho1
    clear ho hn ho1
    go_enter Tryd.func10, Tryd.ntmps10
    go_wp2
    go_loopw [4, 5] (fun v i wr => ∃ k : Nat, k ≤ n ∧ i = .int .i64 ((2 * k : Nat) : Int) ∧ Own wr w.heap.size v k (ubn (tx s)) ∧ unp (tx s) = (unp ((tx s).drop (2 * k))).map (fun l => (List.range k).map (ub (tx s)) ++ l) ∧ Below w.heap.size w wr) (fun _ i _ => s.size - (intOf i).toNat)
    case atStart => exact ⟨0, by omega, rfl, HO1.out, by simp, hb0⟩
    case round =>
      obtain ⟨k, hk, rfl, hO, hu, hb⟩ := hrel
      clear mk HO1 hb0 i3 i4
      by_cases hlt : k < n
      · have hs1 : 2 * k < s.size := by omega
        have hs2 : 2 * k + 1 < s.size := by omega
        rw [tx_drop s _ hs1, tx_drop s _ hs2] at hu
        have gx : (tx s).getD (2 * k) 0 = s[2 * k] := tx_getD s _ hs1
        have gy : (tx s).getD (2 * k + 1) 0 = s[2 * k + 1] := tx_getD s _ hs2
        have HK : Hid (∀ j, 2 * k = j → 2 * (k + 1) = j + 2) := fun j h => by omega
        have hub : ub (tx s) k = UInt8.ofNat (16 * dg s[2 * k] + dg s[2 * k + 1]) := by unfold ub; rw [gx, gy]
        clear gx gy
        obtain ⟨j, hj⟩ : ∃ j, 2 * k = j := ⟨_, rfl⟩
        have hj2 := HK.out j hj
        simp only [hj] at *
        obtain ⟨x, hxx⟩ : ∃ x, s[j] = x := ⟨_, rfl⟩
        obtain ⟨y, hyy⟩ : ∃ y, s[j + 1] = y := ⟨_, rfl⟩
        rw [hxx, hyy] at hu hub
        have hxt : (s[j].toNat : Int) = (x.toNat : Int) := by rw [hxx]
        have hyt : (s[j + 1].toNat : Int) = (y.toNat : Int) := by rw [hyy]
        have cx := fun W => pdigit_any x W
        have cy := fun W => pdigit_any y W
        have i3 : (j : Int) < (s.size : Int) := by omega
        have i4 : (j : Int) + 1 < (s.size : Int) := by omega
        clear hxx hyy
        by_cases dx : dg x < 16
        · by_cases dy : dg y < 16
          · simp only [if_pos dx] at cx
            simp only [if_pos dy] at cy
            have HU : Hid (unp (tx s) = (unp ((tx s).drop (j + 2))).map (fun l => (List.range (k + 1)).map (ub (tx s)) ++ l)) := by
              unfold Hid
              rw [hu, unp, if_pos ⟨dx, dy⟩, Option.map_map]
              congr 1
              funext l
              show _ ++ (_ :: l) = _
              rw [List.range_succ, List.map_append, List.append_assoc]
              show _ = _ ++ (ub (tx s) k :: l)
              rw [hub]
            have hz : ubn (tx s) k = 16 * dg x + dg y := by
              unfold ubn; rw [hub, UInt8.toNat_ofNat']; omega
            clear hu hub
            generalize dg x = p at *
            generalize dg y = m at *
            obtain ⟨z, ez⟩ : ∃ z, 16 * p + m = z := ⟨_, rfl⟩
            rw [ez] at hz
            have hz2 : z < 256 := by omega
            have b1 : (p : Int) < 16 := by omega
            have b2 : (m : Int) < 16 := by omega
            have b3 : 16 * (p : Int) + (m : Int) = (z : Int) := by omega
            have b4 : (z : Int) % 256 = (z : Int) := by omega
            have b5 : (z : Int) < 256 := by omega
            have b6 : bits .or .i64 ((p : Int) * 16) (m : Int) = (z : Int) := by
              rw [show ((p : Int) * 16) = ((16 * p : Nat) : Int) by omega, (bits_nat .i64 63 (by decide) wraps_i64' (16 * p) m (by omega) (by omega)).2, or_low p m (by omega) (by omega), ez]
            go_wp2
            go_quiet (((first | (go_at_call_of 24 (Value.int .u8 (x.toNat : Int)); refine (cx _).mono ?_) | (go_at_call_of 24 (Value.int .u8 (y.toNat : Int)); refine (cy _).mono ?_)); rintro e w9 ⟨rfl, rfl⟩; exact ⟨rfl, _, rfl⟩))
            obtain ⟨v', W, hr, ho2, hb2⟩ := push1 (hO.keep (below_drewN (Below.refl _ _) nq)) hz2 (by omega) (below_drewN hb nq).size hz
            have HA : Hid _ := hr
            have HO : Hid _ := ho2
            have HB : Hid (Below w.heap.size w W) := (below_drewN hb nq).trans hb2
            clear hr hO ho2 hb hb2
            go_wp2_with (at_builtin; refine wpList_append_ran (by rfl) _ _ 30 (by rfl) _ _ _ _ (by rfl) (by rfl) HA.out ?_)
            go_wp2
            go_round
            case rel => exact ⟨k + 1, by omega, by rw [hj2]; go_num, HO.out, by rw [hj2]; exact HU.out, HB.out⟩
            case measure => simp [intOf]; omega
          · simp only [if_pos dx] at cx
            simp only [if_neg dy] at cy
            have HU : Hid (unp (tx s) = none) := by
              unfold Hid
              rw [hu, unp, if_neg (fun h => dy h.2)]; rfl
            clear hu hub hO
            generalize dg x = p at *
            have b1 : (p : Int) < 16 := by omega
            go_wp2
            go_quiet (((first | (go_at_call_of 24 (Value.int .u8 (x.toNat : Int)); refine (cx _).mono ?_) | (go_at_call_of 24 (Value.int .u8 (y.toNat : Int)); refine (cy _).mono ?_)); rintro e w9 ⟨rfl, rfl⟩; exact ⟨rfl, _, rfl⟩))
            go_wp2
            go_ret2
            exact ⟨_, false, rfl, HU.out, fun _ => rfl, below_drewN hb _⟩
        · simp only [if_neg dx] at cx
          have HU : Hid (unp (tx s) = none) := by
            unfold Hid
            rw [hu, unp, if_neg (fun h => dx h.1)]; rfl
          obtain ⟨g, hg⟩ : ∃ g : Int, (if dg y < 16 then (dg y : Int) else -1) = g := ⟨_, rfl⟩
          simp only [hg] at cy
          clear hu hub hO hg
          go_wp2
          go_quiet (((first | (go_at_call_of 24 (Value.int .u8 (x.toNat : Int)); refine (cx _).mono ?_) | (go_at_call_of 24 (Value.int .u8 (y.toNat : Int)); refine (cy _).mono ?_)); rintro e w9 ⟨rfl, rfl⟩; exact ⟨rfl, _, rfl⟩))
          go_wp2
          go_ret2
          exact ⟨_, false, rfl, HU.out, fun _ => rfl, below_drewN hb _⟩
      · have hkn : k = n := by omega
        subst hkn
        have cv := own_conv hO (ubn_lt _)
        have HU : Hid (unp (tx s) = some (tx (str (ubn (tx s)) k))) := by
          unfold Hid
          rw [hu, List.drop_eq_nil_of_le (by rw [tx_length]; omega), tx_ub]
          show some (_ ++ []) = _
          rw [List.append_nil]
        obtain ⟨r, hr⟩ : ∃ r, str (ubn (tx s)) k = r := ⟨_, rfl⟩
        rw [hr] at cv HU
        have i3 : ¬ (((2 * k : Nat) : Int) < (s.size : Int)) := by omega
        clear hu hr hO
        go_wp2
        go_ret2
        exact ⟨r, .inr ⟨rfl, HU.out, hb⟩⟩
end Go.Proofs.YtighljdeaofanaaDoor
