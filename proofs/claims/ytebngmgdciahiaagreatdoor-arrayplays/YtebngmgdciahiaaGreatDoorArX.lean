/-
  The document's array: its disks' operations, Save.
-/
import Derived.Test.YtebngmgdciahiaaGreatDoorArT
import Derived.Test.YtebngmgdciahiaaGreatDoorArO
set_option maxRecDepth 100000
namespace Go.Proofs.YtebngmgdciahiaaGreatDoor
open Go.RowKit Crc
open _root_.Go.Proofs.YtebngmgdciahiaaGreatDoor.Nm _root_.Go.Proofs.YtebngmgdciahiaaGreatDoor.Dk
attribute [local go_sem ↓] Go.wp_at_zero Go.wp_at_succ
set_option linter.unusedVariables false

section
variable {w0 w : World} {R : Rg} {q g : Option Nat} {S T : Nat → St} {z z2 : Option Fz}
theorem pr_ar {i : Nat} {s2 : St} {w' : World} {zz zz2 : Option Fz} (h : Pr w0 w' ⟨R, i, S, T⟩ (R.P i).p (R.P i).m (R.P i).d q g (S i) s2 zz zz2) : Ar w0 w' R q g S (up T i s2) zz zz2 := by
  have := h.2.2
  dsimp only at this
  rw [up_self] at this
  exact this
theorem ad_wri (h : Ar w0 w R q g S T z z2) {i : Nat} (hi : i < R.n) (hb : Zb z2) {x : ByteArray} (hx : x.size ≤ maxLen) {va : Option Addr} {vn vc : Nat} {b : ByteArray} (hin : Inp w va vn vc b) (hvn : vn ≤ maxLen) :
    Calls Tryz.prog 36 #[.pointer (some ⟨(R.P i).d, 0, none⟩), .string x, .slice va vn vc] w fun e w' => e = .returned (.int .i64 (wriZ z2 (T i) x b).1) ∧ Ar w0 w' R q g S (up T i (wriZ z2 (T i) x b).2) z (tickO z2) ∧ Kd w w' :=
  (pr_wri2 (h.pr hi) hb hx hin hvn).mono fun e w' c => ⟨c.1, pr_ar c.2.1, c.2.2⟩
theorem ad_syn (h : Ar w0 w R q g S T z z2) {i : Nat} (hi : i < R.n) (hb : Zb z2) {x : ByteArray} (hx : x.size ≤ maxLen) :
    Calls Tryz.prog 37 #[.pointer (some ⟨(R.P i).d, 0, none⟩), .string x] w fun e w' => e = .returned (.int .i64 (synZ z2 (T i) x).1) ∧ Ar w0 w' R q g S (up T i (synZ z2 (T i) x).2) z (tickO z2) ∧ Kd w w' :=
  (pr_syn2 (h.pr hi) hb hx).mono fun e w' c => ⟨c.1, pr_ar c.2.1, c.2.2⟩
theorem ad_ren (h : Ar w0 w R q g S T z z2) {i : Nat} (hi : i < R.n) (hb : Zb z2) {x y : ByteArray} (hx : x.size ≤ maxLen) (hy : y.size ≤ maxLen) (hsm : x = y → there x (T i).fs = true → renS (T i).fs x y = (T i).fs) :
    Calls Tryz.prog 38 #[.pointer (some ⟨(R.P i).d, 0, none⟩), .string x, .string y] w fun e w' => e = .returned (.int .i64 (renZ z2 (T i) x y).1) ∧ Ar w0 w' R q g S (up T i (renZ z2 (T i) x y).2) z (tickO z2) ∧ Kd w w' :=
  (pr_ren2 (h.pr hi) hb hx hy hsm).mono fun e w' c => ⟨c.1, pr_ar c.2.1, c.2.2⟩
theorem ad_read (h : Ar w0 w R q g S T z z2) {i : Nat} (hi : i < R.n) (hb : Zb z2) {x : ByteArray} (hx : x.size ≤ maxLen) :
    Calls Tryz.prog 35 #[.pointer (some ⟨(R.P i).d, 0, none⟩), .string x] w fun e w' => (∃ a n c, e = .returned (.tuple #[.slice a n c, .int .i64 (readZ z2 (T i) x).2]) ∧ Inp w' a n c (readZ z2 (T i) x).1) ∧ Ar w0 w' R q g S (up T i (askZ z2 (T i) [x]).2.2) z (tickO z2) ∧ Kd w w' :=
  (pr_read2 (h.pr hi) hb hx).mono fun e w' c => ⟨c.1.1, pr_ar c.2.1, c.2.2⟩
end
/-- The document's array in memory. -/
structure VX (w : World) (b k m bl : Nat) (P : Nat → Pc) : Prop where
  ex : ∃ c g cap cur, w.heap[b]? = some (vxO k m bl c g cap) ∧ w.heap[g]? = some (.cells cur 71 (0, 0)) ∧ (∀ i, i < k + m → cur[i]? = some (pv (P i).d)) ∧ k + m ≤ cap
theorem VX.keep {w w' : World} {b k m bl : Nat} {P : Nat → Pc} (h : VX w b k m bl P) (hb : Below w.heap.size w w') : VX w' b k m bl P := by
  obtain ⟨c, g, cap, cur, h1, h2, h3, h4⟩ := h.ex
  exact ⟨c, g, cap, cur, (hb.block b (Array.getElem?_eq_some_iff.1 h1).1).trans h1, (hb.block g (Array.getElem?_eq_some_iff.1 h2).1).trans h2, h3, h4⟩
theorem Ar.vx {w0 w : World} {R : Rg} {q g : Option Nat} {S T : Nat → St} {z z2 : Option Fz} (h : Ar w0 w R q g S T z z2) {b k m bl : Nat} (a : Vs R b k m bl) : VX w b k m bl R.P := by
  obtain ⟨c, g, cap, cur, h1, h2, h3, h4⟩ := a.ex
  exact ⟨c, g, cap, cur, h.kept h1, h.kept h2, h3, h4⟩
/-- Its cells. -/
theorem VX.cells {w : World} {b k m bl : Nat} {P : Nat → Pc} (h : VX w b k m bl P) : ∃ g cap, w.cell? ⟨b, 0, none⟩ = some (.int .i64 (k : Int)) ∧ w.cell? ⟨b, 1, none⟩ = some (.int .i64 (m : Int)) ∧ w.cell? ⟨b, 4, none⟩ = some (.slice (some ⟨g, 0, none⟩) (k + m) cap) ∧ ∀ i, i < k + m → w.cell? ⟨g, i, none⟩ = some (.pointer (some ⟨(P i).d, 0, none⟩)) := by
  obtain ⟨c, g, cap, cur, h1, h2, h3, h4⟩ := h.ex
  refine ⟨g, cap, ?_, ?_, ?_, fun i hi => ?_⟩
  · simpa using cell_of_row w b 0 _ _ _ h1
  · simpa using cell_of_row w b 1 _ _ _ h1
  · simpa using cell_of_row w b 4 _ _ _ h1
  · rw [cell_of_row w g i _ _ _ h2, h3 i hi]; rfl
theorem rsave_no {w : World} {b k m bl : Nat} {P : Nat → Pc} (h : VX w b k m bl P) {i : Int} (hi : i < 0 ∨ ((k + m : Nat) : Int) ≤ i) (x : ByteArray) (v : Value) :
    Calls Tryz.prog 13 #[.pointer (some ⟨b, 0, none⟩), .int .i64 i, .string x, v] w fun e w' => e = .returned (.int .i64 1) ∧ w' = w := by
  obtain ⟨g, cap, _, _, c4, _⟩ := h.cells
  obtain ⟨n, hn⟩ : ∃ n, k + m = n := ⟨_, rfl⟩
  rw [hn] at c4 hi
  clear h
  by_cases h0 : i < 0
  · have g0 : decide (i < 0) = true := decide_eq_true h0
    clear hi h0
    go_enter Tryz.func13, Tryz.ntmps13
    go_wp2
    go_ret
    exact ⟨rfl, rfl⟩
  · have g0 : decide (i < 0) = false := decide_eq_false h0
    have g1 : decide ((n : Int) ≤ i) = true := decide_eq_true (by omega)
    clear hi h0
    go_enter Tryz.func13, Tryz.ntmps13
    go_wp2
    go_ret
    exact ⟨rfl, rfl⟩
/-- A file renamed to itself stays. -/
def qR (z : Option Fz) (s : St) (x y : ByteArray) : Prop := (wriZ z s pTmp y).1 = 0 → (synZ (tickO z) (wriZ z s pTmp y).2 pTmp).1 = 0 → pTmp = x → there pTmp (synZ (tickO z) (wriZ z s pTmp y).2 pTmp).2.fs = true → renS (synZ (tickO z) (wriZ z s pTmp y).2 pTmp).2.fs pTmp x = (synZ (tickO z) (wriZ z s pTmp y).2 pTmp).2.fs
set_option maxHeartbeats 4000000 in
theorem save_q {w0 w : World} {R : Rg} {q g : Option Nat} {S T : Nat → St} {z z2 : Option Fz} {j b k m bl : Nat} (h : Ar w0 w R q g S T z z2) (a : Hs R b k m bl) {i : Nat} (hi : i < k + m) (hz : ZN j z) (hj : j ≤ 900000) {x : ByteArray} (hx : x.size ≤ maxLen) {va : Option Addr} {vn vc : Nat} {y : ByteArray} (hin : Inp w va vn vc y) (hvn : vn ≤ maxLen) :
    Calls Tryz.prog 12 #[.pointer (some ⟨b, 0, none⟩), .int .i64 (i : Int), .string x, .slice va vn vc] w fun e w' => e = .returned (.int .i64 (savZ z (S i) x y).1) ∧ Ar w0 w' R q g (up S i (savZ z (S i) x y).2.2) T (savZ z (S i) x y).2.1 z2 ∧ Kd w w' ∧ qR z (S i) x y := by
  have cD : Calls Tryz.prog 33 #[.pointer (some ⟨b, 0, none⟩), .int .i64 (i : Int)] w fun e w' => e = .returned (.tuple #[.iface 61 (.pointer (some ⟨(R.P i).p, 0, none⟩)), .bool true]) ∧ w' = w := disk_yes (h.ax a) hi
  have hR : i < R.n := by rw [a.N]; exact hi
  have ht : pTmp.size ≤ maxLen := by unfold maxLen; decide
  have mW := fun w => mth_wri ⟨(R.P i).p, 0, none⟩ w
  have mS := fun w => mth_syn ⟨(R.P i).p, 0, none⟩ w
  have mR := fun w => mth_ren ⟨(R.P i).p, 0, none⟩ w
  -- the three calls
  have k1 := ar_wri h hR (zn_zb hz (by omega)) ht hin hvn
  have hsav : savZ z (S i) x y = savZ z (S i) x y := rfl
  conv at hsav => rhs; unfold savZ
  obtain ⟨A, hA⟩ : ∃ A, savZ z (S i) x y = A := ⟨_, rfl⟩
  rw [hA] at hsav ⊢
  obtain ⟨E1, hE1⟩ : ∃ E1, wriZ z (S i) pTmp y = E1 := ⟨_, rfl⟩
  rw [hE1] at k1 hsav
  obtain ⟨e1, s1⟩ := E1
  dsimp only at k1 hsav
  obtain ⟨E2, hE2⟩ : ∃ E2, synZ (tickO z) s1 pTmp = E2 := ⟨_, rfl⟩
  rw [hE2] at hsav
  obtain ⟨e2, s2⟩ := E2
  dsimp only at hsav
  obtain ⟨E3, hE3⟩ : ∃ E3, renZ (tickO (tickO z)) s2 pTmp x = E3 := ⟨_, rfl⟩
  rw [hE3] at hsav
  obtain ⟨e3, s3⟩ := E3
  dsimp only at hsav
  have HQ9 : Hid ((e1 = 0 → e2 = 0 → pTmp = x → there pTmp s2.fs = true → renS s2.fs pTmp x = s2.fs) → qR z (S i) x y) := fun hh => by
    unfold qR
    rw [hE1]
    dsimp only
    rw [hE2]
    exact hh
  have HR9 : Hid (i < R.n) := hR
  have k2 : ∀ w', Ar w0 w' R q g (up S i s1) T (tickO z) z2 → Calls Tryz.prog 62 #[.pointer (some ⟨(R.P i).p, 0, none⟩), .string pTmp] w' fun e w'' => e = .returned (.int .i64 e2) ∧ Ar w0 w'' R q g (up S i s2) T (tickO (tickO z)) z2 ∧ Kd w' w'' := fun w' h1 => by
    have := ar_syn h1 hR (zn_zb hz.tick (by omega)) ht
    rw [up_at, up_up, hE2] at this
    exact this
  have k3 : ∀ w', Ar w0 w' R q g (up S i s2) T (tickO (tickO z)) z2 → Calls Tryz.prog 63 #[.pointer (some ⟨(R.P i).p, 0, none⟩), .string pTmp, .string x] w' fun e w'' => e = .returned (.int .i64 e3) ∧ Ar w0 w'' R q g (up S i s3) T (tickO (tickO (tickO z))) z2 ∧ Kd w' w'' := fun w' h1 => by
    have := ar_ren h1 hR (zn_zb hz.tick.tick (by omega)) ht hx
    rw [up_at, up_up, hE3] at this
    exact this
  have HS : Hid (A = if e1 ≠ 0 then (e1, tickO z, s1) else if e2 ≠ 0 then (e2, tickO (tickO z), s2) else (e3, tickO (tickO (tickO z)), s3)) := hsav
  have K2 : Hid (∀ w', Ar w0 w' R q g (up S i s1) T (tickO z) z2 → Calls Tryz.prog 62 #[.pointer (some ⟨(R.P i).p, 0, none⟩), .string pTmp] w' fun e w'' => e = .returned (.int .i64 e2) ∧ Ar w0 w'' R q g (up S i s2) T (tickO (tickO z)) z2 ∧ Kd w' w'') := k2
  have K3 : Hid (∀ w', Ar w0 w' R q g (up S i s2) T (tickO (tickO z)) z2 → Calls Tryz.prog 63 #[.pointer (some ⟨(R.P i).p, 0, none⟩), .string pTmp, .string x] w' fun e w'' => e = .returned (.int .i64 e3) ∧ Ar w0 w'' R q g (up S i s3) T (tickO (tickO (tickO z))) z2 ∧ Kd w' w'') := k3
  clear hE1 hE2 hE3 hA hsav k2 k3 h a hi hR ht hz hin hvn hx
  go_enter Tryz.func12, Tryz.ntmps12
  go_wp2_with fail
  go_at_call 33
  refine cD.mono ?_
  rintro e w' ⟨rfl, rfl⟩
  clear cD
  go_wp2_with fail
  go_at_call 61
  refine k1.mono ?_
  rintro e w1 ⟨rfl, hA1, hk1⟩
  clear k1 mW
  have HA1 : Hid (Ar w0 w1 R q g (up S i s1) T (tickO z) z2 ∧ Kd w' w1) := ⟨hA1, hk1⟩
  by_cases g1 : e1 = 0
  · subst g1
    have k2 := K2.out _ hA1
    clear hA1 hk1
    unfold pTmp at k2
    go_wp2_with fail
    go_at_call 62
    refine k2.mono ?_
    rintro e w2 ⟨rfl, hA2, hk2⟩
    clear k2 mS
    have HA2 : Hid (Ar w0 w2 R q g (up S i s2) T (tickO (tickO z)) z2 ∧ Kd w' w2) := ⟨hA2, HA1.out.2.trans hk2⟩
    by_cases g2 : e2 = 0
    · subst g2
      have k3 := K3.out _ hA2
      clear hA2 hk2
      unfold pTmp at k3
      go_wp2_with fail
      go_at_call 63
      refine k3.mono ?_
      rintro e w3 ⟨rfl, hA3, hk3⟩
      have HA3 : Hid (Ar w0 w3 R q g (up S i s3) T (tickO (tickO (tickO z))) z2 ∧ Kd w' w3) := ⟨hA3, HA2.out.2.trans hk3⟩
      clear hA3 hk3 k3
      go_wp2
      go_ret
      have e9 := HS.out
      rw [if_neg (fun k => k rfl), if_neg (fun k => k rfl)] at e9
      subst e9
      exact ⟨rfl, HA3.out.1, HA3.out.2, HQ9.out fun _ _ e t => by have o := HA2.out.1.on HR9.out; rw [up_at] at o; exact on_same o e t⟩
    · have g3 : (e2 == 0) = false := by simpa using g2
      have g4 : (e2 != 0) = true := by simpa using g2
      have HG : Hid (e2 ≠ 0) := g2
      clear hA2 hk2 g2
      go_wp2
      go_ret
      have e9 := HS.out
      rw [if_neg (fun k => k rfl), if_pos HG.out] at e9
      subst e9
      exact ⟨rfl, HA2.out.1, HA2.out.2, HQ9.out fun _ h => absurd h HG.out⟩
  · have g3 : (e1 == 0) = false := by simpa using g1
    have g4 : (e1 != 0) = true := by simpa using g1
    have HG : Hid (e1 ≠ 0) := g1
    clear hA1 hk1 g1
    go_wp2
    go_ret
    have e9 := HS.out
    rw [if_pos HG.out] at e9
    subst e9
    exact ⟨rfl, HA1.out.1, HA1.out.2, HQ9.out fun h => absurd h HG.out⟩
set_option maxHeartbeats 4000000 in
theorem rsave_any {w0 w : World} {R : Rg} {q g : Option Nat} {S T : Nat → St} {z z2 : Option Fz} {j b k m bl : Nat} (h : Ar w0 w R q g S T z z2) (a : Vs R b k m bl) (hN : R.n = k + m) {i : Nat} (hi : i < k + m) (hz : ZN j z2) (hj : j ≤ 900000) {x : ByteArray} (hx : x.size ≤ maxLen) {va : Option Addr} {vn vc : Nat} {y : ByteArray} (hin : Inp w va vn vc y) (hvn : vn ≤ maxLen) (hq : qR z2 (T i) x y) :
    Calls Tryz.prog 13 #[.pointer (some ⟨b, 0, none⟩), .int .i64 (i : Int), .string x, .slice va vn vc] w fun e w' => e = .returned (.int .i64 (savZ z2 (T i) x y).1) ∧ Ar w0 w' R q g S (up T i (savZ z2 (T i) x y).2.2) z (savZ z2 (T i) x y).2.1 ∧ Kd w w' := by
  obtain ⟨nn, hnn⟩ : ∃ nn, k + m = nn := ⟨_, rfl⟩
  obtain ⟨vg, vcap, _, _, c4, cD⟩ := (h.vx a).cells
  have cD := cD i hi
  have ij : (i : Int) < (nn : Int) := by omega
  have ij2 : decide ((nn : Int) ≤ (i : Int)) = false := decide_eq_false (by omega)
  have ij3 : i < nn := by omega
  have hR : i < R.n := by rw [hN]; exact hi
  have ht : pTmp.size ≤ maxLen := by unfold maxLen; decide
  -- the three calls
  have k1 := ad_wri h hR (zn_zb hz (by omega)) ht hin hvn
  have hsav : savZ z2 (T i) x y = savZ z2 (T i) x y := rfl
  conv at hsav => rhs; unfold savZ
  obtain ⟨A, hA⟩ : ∃ A, savZ z2 (T i) x y = A := ⟨_, rfl⟩
  rw [hA] at hsav ⊢
  obtain ⟨E1, hE1⟩ : ∃ E1, wriZ z2 (T i) pTmp y = E1 := ⟨_, rfl⟩
  rw [hE1] at k1 hsav
  obtain ⟨e1, s1⟩ := E1
  dsimp only at k1 hsav
  obtain ⟨E2, hE2⟩ : ∃ E2, synZ (tickO z2) s1 pTmp = E2 := ⟨_, rfl⟩
  rw [hE2] at hsav
  obtain ⟨e2, s2⟩ := E2
  dsimp only at hsav
  obtain ⟨E3, hE3⟩ : ∃ E3, renZ (tickO (tickO z2)) s2 pTmp x = E3 := ⟨_, rfl⟩
  rw [hE3] at hsav
  obtain ⟨e3, s3⟩ := E3
  dsimp only at hsav
  have hqq : e1 = 0 → e2 = 0 → pTmp = x → there pTmp s2.fs = true → renS s2.fs pTmp x = s2.fs := by
    unfold qR at hq
    rw [hE1] at hq
    dsimp only at hq
    rw [hE2] at hq
    exact hq
  have k2 : ∀ w', Ar w0 w' R q g S (up T i s1) z (tickO z2) → Calls Tryz.prog 37 #[.pointer (some ⟨(R.P i).d, 0, none⟩), .string pTmp] w' fun e w'' => e = .returned (.int .i64 e2) ∧ Ar w0 w'' R q g S (up T i s2) z (tickO (tickO z2)) ∧ Kd w' w'' := fun w' h1 => by
    have := ad_syn h1 hR (zn_zb hz.tick (by omega)) ht
    rw [up_at, up_up, hE2] at this
    exact this
  have k3 : e1 = 0 → e2 = 0 → ∀ w', Ar w0 w' R q g S (up T i s2) z (tickO (tickO z2)) → Calls Tryz.prog 38 #[.pointer (some ⟨(R.P i).d, 0, none⟩), .string pTmp, .string x] w' fun e w'' => e = .returned (.int .i64 e3) ∧ Ar w0 w'' R q g S (up T i s3) z (tickO (tickO (tickO z2))) ∧ Kd w' w'' := fun g1 g2 w' h1 => by
    have := ad_ren h1 hR (zn_zb hz.tick.tick (by omega)) ht hx (by rw [up_at]; exact hqq g1 g2)
    rw [up_at, up_up, hE3] at this
    exact this
  have HS : Hid (A = if e1 ≠ 0 then (e1, tickO z2, s1) else if e2 ≠ 0 then (e2, tickO (tickO z2), s2) else (e3, tickO (tickO (tickO z2)), s3)) := hsav
  have K2 : Hid (∀ w', Ar w0 w' R q g S (up T i s1) z (tickO z2) → Calls Tryz.prog 37 #[.pointer (some ⟨(R.P i).d, 0, none⟩), .string pTmp] w' fun e w'' => e = .returned (.int .i64 e2) ∧ Ar w0 w'' R q g S (up T i s2) z (tickO (tickO z2)) ∧ Kd w' w'') := k2
  have K3 : Hid (e1 = 0 → e2 = 0 → ∀ w', Ar w0 w' R q g S (up T i s2) z (tickO (tickO z2)) → Calls Tryz.prog 38 #[.pointer (some ⟨(R.P i).d, 0, none⟩), .string pTmp, .string x] w' fun e w'' => e = .returned (.int .i64 e3) ∧ Ar w0 w'' R q g S (up T i s3) z (tickO (tickO (tickO z2))) ∧ Kd w' w'') := k3
  clear hE1 hE2 hE3 hA hsav k2 k3 h a hR ht hz hin hvn hx hq hqq hN
  rw [hnn] at c4
  clear hnn hi
  go_enter Tryz.func13, Tryz.ntmps13
  go_wp2_with fail
  go_at_call 36
  refine k1.mono ?_
  rintro e w1 ⟨rfl, hA1, hk1⟩
  clear k1
  have HA1 : Hid (Ar w0 w1 R q g S (up T i s1) z (tickO z2) ∧ Kd w w1) := ⟨hA1, hk1⟩
  by_cases g1 : e1 = 0
  · subst g1
    have k2 := K2.out _ hA1
    clear hA1 hk1
    unfold pTmp at k2
    go_wp2_with fail
    go_at_call 37
    refine k2.mono ?_
    rintro e w2 ⟨rfl, hA2, hk2⟩
    clear k2
    have HA2 : Hid (Ar w0 w2 R q g S (up T i s2) z (tickO (tickO z2)) ∧ Kd w w2) := ⟨hA2, HA1.out.2.trans hk2⟩
    by_cases g2 : e2 = 0
    · subst g2
      have k3 := K3.out (by trivial) (by trivial) _ hA2
      clear hA2 hk2
      unfold pTmp at k3
      go_wp2_with fail
      go_at_call 38
      refine k3.mono ?_
      rintro e w3 ⟨rfl, hA3, hk3⟩
      have HA3 : Hid (Ar w0 w3 R q g S (up T i s3) z (tickO (tickO (tickO z2))) ∧ Kd w w3) := ⟨hA3, HA2.out.2.trans hk3⟩
      clear hA3 hk3 k3
      go_wp2
      go_ret
      have e9 := HS.out
      rw [if_neg (fun k => k rfl), if_neg (fun k => k rfl)] at e9
      subst e9
      exact ⟨rfl, HA3.out⟩
    · have g3 : (e2 == 0) = false := by simpa using g2
      have g4 : (e2 != 0) = true := by simpa using g2
      have HG : Hid (e2 ≠ 0) := g2
      clear hA2 hk2 g2
      go_wp2
      go_ret
      have e9 := HS.out
      rw [if_neg (fun k => k rfl), if_pos HG.out] at e9
      subst e9
      exact ⟨rfl, HA2.out⟩
  · have g3 : (e1 == 0) = false := by simpa using g1
    have g4 : (e1 != 0) = true := by simpa using g1
    have HG : Hid (e1 ≠ 0) := g1
    clear hA1 hk1 g1
    go_wp2
    go_ret
    have e9 := HS.out
    rw [if_pos HG.out] at e9
    subst e9
    exact ⟨rfl, HA1.out⟩
end Go.Proofs.YtebngmgdciahiaaGreatDoor
