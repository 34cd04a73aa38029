/-
  slices.SortStableFunc over a row of elements of k cells: a sorted permutation of what was there.
-/
import Derived.Test.YtahnkkifegdjeaaStG
import Derived.Test.YtahnkkifegdjeaaStH
import Derived.Test.YtahnkkifegdjeaaPgO
namespace Go.Proofs.Ytahnkkifegdjeaa
open Go.Shelf Go.RowKit Go.Lib Go.Sort Pg
set_option linter.unusedVariables false

set_option maxHeartbeats 8000000 in
set_option maxRecDepth 1000000 in
theorem stable_all {P : Program} {α : Type} [Inhabited α] {k : Nat} (L : Ip P k) (enc : α → List Value) (cf : α → α → Int) (hO : SWO (ltOf cf)) (g : Nat) (cb : Array Value) (blk off cap : Nat) (d : Array α) (w : World)
    (eg : ∀ args w, (callFunc g args).run P w = .ok (.enter g args) w) (hC : CmpLays P g cb enc k cf blk off d.size w) (R : RowK enc k w blk off d) (hsz : d.size < 1152921504606846976) :
    Calls P 33 #[.slice (some ⟨blk, off, none⟩) d.size cap, .int .i64 d.size, .func (.func g) #[] cb] w fun e w' => e = .returned (.tuple #[]) ∧ ∃ d', PermIn 0 d.size d d' ∧ SortedIn (ltOf cf) 0 d.size d' ∧ SWK enc k w blk off d' w' := by
  have mixed := L.mixed; have t0 := L.t0; have a0 := L.a0; have z0 := L.z0; have v0 := L.v0; have t3 := L.t3; have a3 := L.a3; have z3 := L.z3; have v3 := L.v3; have t4 := L.t4; have a4 := L.a4; have z4 := L.z4; have v4 := L.v4; have t22 := L.t22; have a22 := L.a22; have z22 := L.z22; have v22 := L.v22; have t60 := L.t60; have a60 := L.a60; have z60 := L.z60; have v60 := L.v60
  have FG := L.f33
  have e36 : ∀ args w, (callFunc 36 args).run P w = .ok (.enter 36 args) w := enters_of L.f36 (by kernel_rfl) rfl
  have e37 : ∀ args w, (callFunc 37 args).run P w = .ok (.enter 37 args) w := enters_of L.f37 (by kernel_rfl) rfl
  obtain ⟨n, hn⟩ : ∃ n, n = d.size := ⟨_, rfl⟩
  have HI : Aside (∀ (x y : Nat) (dk : Array α) (W : World), d.size = dk.size → SWK enc k w blk off dk W → x ≤ y → y ≤ n →
      Calls P 36 #[.slice (some ⟨blk, off, none⟩) n cap, .int .i64 x, .int .i64 y, .func (.func g) #[] cb] W fun e w' => e = .returned (.tuple #[]) ∧ ∃ d', PermIn x y dk d' ∧ SortedIn (ltOf cf) x y d' ∧ SWK enc k w blk off d' w') := by
    intro x y dk W q1 q2 q3 q4
    have := ins_all L enc cf hO g cb blk off cap x y d dk w W eg hC R q1 q2 q3 (by omega) (by omega)
    rw [← q1, ← hn] at this
    exact this
  have HM : Aside (∀ (x y z : Nat) (dk : Array α) (W : World), d.size = dk.size → SWK enc k w blk off dk W → x < y → y < z → z ≤ n → SortedIn (ltOf cf) x y dk → SortedIn (ltOf cf) y z dk →
      Calls P 37 #[.slice (some ⟨blk, off, none⟩) n cap, .int .i64 x, .int .i64 y, .int .i64 z, .func (.func g) #[] cb] W fun e w' => e = .returned (.tuple #[]) ∧ ∃ d', PermIn x z dk d' ∧ SortedIn (ltOf cf) x z d' ∧ SWK enc k w blk off d' w') := by
    intro x y z dk W q1 q2 q3 q4 q5 q6 q7
    have := merge_all L enc cf hO g cb blk off cap d w eg hC R hsz (z - x) x y z dk W (Nat.le_refl _) q1 q2 q3 q4 (by omega) q6 q7
    rw [← hn] at this
    exact this
  have S0 : Aside (SWK enc k w blk off d w) := SWK.start R.hH
  have HN : Aside (n = d.size) := hn
  have hnb : n < 1152921504606846976 := by omega
  rw [← hn]
  clear L hC hO R hsz hn
  go_enter FG, Try.ntmps33
  go_wp2
  go_loopg [7, 8] (n + 20) (fun kx s7 s8 wr => ∃ (q a b : Nat) (dk : Array α), s7 = .int .i64 a ∧ s8 = .int .i64 b ∧ a ≤ n ∧ a + 20 ≤ b ∧ b ≤ a + 20 ∧ n + 20 - a ≤ kx ∧ Aside (SWK enc k w blk off dk wr) ∧ Aside (a = q * 20 ∧ Done (ltOf cf) 20 q dk ∧ PermIn 0 n d dk))
  case atStart => exact ⟨0, 0, 20, d, rfl, rfl, by omega, by omega, by omega, by omega, S0, ⟨rfl, done_zero, permIn_refl _ _ _⟩⟩
  case round =>
    clear S0
    obtain ⟨q, a, b, dk, rfl, rfl, han, hab1, hab2, hkx, S1, I⟩ := hrel
    by_cases hbn : b ≤ n
    · have hbz : (b : Int) ≤ (n : Int) := by omega
      have cI := HI.out a b dk wr I.out.2.2.1.symm S1.out (by omega) hbn
      clear S1
      go_wp2_with fail
      go_at_fn 36
      refine cI.mono ?_
      rintro e w2 ⟨rfl, d2, r1, r2, S2'⟩
      have S2 : Aside (SWK enc k w blk off d2 w2) := S2'
      have I2 : Aside (b = (q + 1) * 20 ∧ Done (ltOf cf) 20 (q + 1) d2 ∧ PermIn 0 n d d2) := by
        obtain ⟨i1, i2, i3⟩ := I.out
        exact ⟨by omega, done_step i2 i1 (by omega) r1 r2, permIn_trans _ _ _ _ _ i3 (permIn_mono dk d2 a b 0 n (by omega) hbn (by rw [i3.1, ← HN.out]; exact Nat.le_refl _) r1)⟩
      clear I r1 r2 S2' cI
      have wb : IntKind.i64.wrap ((b : Int) + 20) = (b : Int) + 20 := by rw [IntKind.wrap_i64]; omega
      go_wp2
      go_roundg (n + 20 - b)
      case measure => omega
      case rel => exact ⟨q + 1, b, b + 20, d2, rfl, by first | rfl | go_num | (congr 1; omega), hbn, by omega, by omega, Nat.le_refl _, S2, I2⟩
    · have hbz : ¬ (b : Int) ≤ (n : Int) := by omega
      have cI := HI.out a n dk wr I.out.2.2.1.symm S1.out han (Nat.le_refl _)
      clear S1
      go_wp2_with fail
      go_at_fn 36
      refine cI.mono ?_
      rintro e w2 ⟨rfl, d2, r1, r2, S2'⟩
      have S2 : Aside (SWK enc k w blk off d2 w2) := S2'
      have I2 : Aside (Blk (ltOf cf) 20 n d2 ∧ PermIn 0 n d d2) := by
        obtain ⟨i1, i2, i3⟩ := I.out
        exact ⟨done_end i2 i1 han (by omega) r1 r2, permIn_trans _ _ _ _ _ i3 (permIn_mono dk d2 a n 0 n (by omega) (Nat.le_refl _) (by rw [i3.1, ← HN.out]; exact Nat.le_refl _) r1)⟩
      clear I r1 r2 S2' cI HI
      go_wp2_with fail
      go_loopg [6] n (fun kx s6 wr => ∃ (s : Nat) (dk : Array α), s6 = .int .i64 s ∧ 20 ≤ s ∧ s ≤ 2 * n + 20 ∧ n - s ≤ kx ∧ Aside (SWK enc k w blk off dk wr) ∧ Aside (Blk (ltOf cf) s n dk ∧ PermIn 0 n d dk))
      case atStart => exact ⟨20, d2, rfl, by omega, by omega, by omega, S2, I2⟩
      case round =>
        clear S2 I2
        obtain ⟨s, dk, rfl, hs20, hs2n, hkx, S1, I⟩ := hrel
        by_cases hsn : s < n
        · have hsz : (s : Int) < (n : Int) := by omega
          have ws : IntKind.i64.wrap (2 * (s : Int)) = 2 * (s : Int) := by rw [IntKind.wrap_i64]; omega
          have I0 : Aside (0 = 0 * (2 * s) ∧ MB (ltOf cf) s 0 n dk ∧ PermIn 0 n d dk) := ⟨by omega, mb_start I.out.1, I.out.2⟩
          clear I
          go_wp2
          go_loopg [7, 8] (n + 2 * s) (fun kx s7 s8 wr => ∃ (q a b : Nat) (dk : Array α), s7 = .int .i64 a ∧ s8 = .int .i64 b ∧ a ≤ n ∧ a + 2 * s ≤ b ∧ b ≤ a + 2 * s ∧ n + 2 * s - a ≤ kx ∧ Aside (SWK enc k w blk off dk wr) ∧ Aside (a = q * (2 * s) ∧ MB (ltOf cf) s q n dk ∧ PermIn 0 n d dk))
          case atStart => exact ⟨0, 0, 2 * s, dk, rfl, by first | rfl | go_num | (congr 1; omega), by omega, by omega, by omega, by omega, S1, I0⟩
          case round =>
            clear S1 I0
            obtain ⟨q, a, b, dk, rfl, rfl, han, hab1, hab2, hkx2, S1, I⟩ := hrel
            have wm : IntKind.i64.wrap ((a : Int) + (s : Int)) = (a : Int) + (s : Int) := by rw [IntKind.wrap_i64]; omega
            by_cases hbn : b ≤ n
            · have hbz : (b : Int) ≤ (n : Int) := by omega
              have i5 := mb_two I.out.2.1 I.out.1 (b := b) (by omega) hbn
              have cM := HM.out a (a + s) b dk wr I.out.2.2.1.symm S1.out (by omega) (by omega) hbn i5.1 i5.2
              have wb : IntKind.i64.wrap ((b : Int) + 2 * (s : Int)) = (b : Int) + 2 * (s : Int) := by rw [IntKind.wrap_i64]; omega
              rw [show ((a + s : Nat) : Int) = (a : Int) + (s : Int) by omega] at cM
              clear S1 i5
              go_wp2_with fail
              go_at_fn 37
              refine cM.mono ?_
              rintro e w2 ⟨rfl, d2, r1, r2, S2'⟩
              have S2 : Aside (SWK enc k w blk off d2 w2) := S2'
              have I2 : Aside (b = (q + 1) * (2 * s) ∧ MB (ltOf cf) s (q + 1) n d2 ∧ PermIn 0 n d d2) := by
                obtain ⟨i1, i2, i3⟩ := I.out
                exact ⟨by rw [Nat.succ_mul]; omega, mb_step i2 i1 (by omega) r1 r2, permIn_trans _ _ _ _ _ i3 (permIn_mono dk d2 a b 0 n (by omega) hbn (by rw [i3.1, ← HN.out]; exact Nat.le_refl _) r1)⟩
              clear I r1 r2 S2' cM
              go_wp2
              go_roundg (n + 2 * s - b)
              case measure => omega
              case rel => exact ⟨q + 1, b, b + 2 * s, d2, rfl, by first | rfl | go_num | (congr 1; omega), hbn, by omega, by omega, Nat.le_refl _, S2, I2⟩
            · have hbz : ¬ (b : Int) ≤ (n : Int) := by omega
              have ws2 : IntKind.i64.wrap ((s : Int) * 2) = (s : Int) * 2 := by rw [IntKind.wrap_i64]; omega
              by_cases hmn : a + s < n
              · have hmz : (a : Int) + (s : Int) < (n : Int) := by omega
                have i5 := mb_last I.out.2.1 I.out.1 (by omega) hmn
                have cM := HM.out a (a + s) n dk wr I.out.2.2.1.symm S1.out (by omega) hmn (Nat.le_refl _) i5.1 i5.2
                rw [show ((a + s : Nat) : Int) = (a : Int) + (s : Int) by omega] at cM
                clear S1 i5
                go_wp2_with fail
                go_at_fn 37
                refine cM.mono ?_
                rintro e w2 ⟨rfl, d2, r1, r2, S2'⟩
                have S2 : Aside (SWK enc k w blk off d2 w2) := S2'
                have I2 : Aside (Blk (ltOf cf) (2 * s) n d2 ∧ PermIn 0 n d d2) := by
                  obtain ⟨i1, i2, i3⟩ := I.out
                  exact ⟨mb_end i2 i1 han (by omega) r1 r2, permIn_trans _ _ _ _ _ i3 (permIn_mono dk d2 a n 0 n (by omega) (Nat.le_refl _) (by rw [i3.1, ← HN.out]; exact Nat.le_refl _) r1)⟩
                clear I r1 r2 S2' cM
                go_wp2
                go_roundg (n - 2 * s)
                case measure => omega
                case rel => exact ⟨2 * s, d2, by first | rfl | go_num | (congr 1; omega), by omega, by omega, Nat.le_refl _, S2, I2⟩
              · have hmz : ¬ (a : Int) + (s : Int) < (n : Int) := by omega
                have I2 : Aside (Blk (ltOf cf) (2 * s) n dk ∧ PermIn 0 n d dk) := ⟨mb_skip I.out.2.1 I.out.1 han (by omega) (by omega), I.out.2.2⟩
                clear I
                go_wp2
                go_roundg (n - 2 * s)
                case measure => omega
                case rel => exact ⟨2 * s, dk, by first | rfl | go_num | (congr 1; omega), by omega, by omega, Nat.le_refl _, S1, I2⟩
        · have hsz : ¬ (s : Int) < (n : Int) := by omega
          have I2 : Aside (SortedIn (ltOf cf) 0 n dk ∧ PermIn 0 n d dk) := ⟨blk_all I.out.1 (by omega), I.out.2⟩
          clear I
          go_wp2
          go_end0
          exact ⟨rfl, dk, I2.out.2, I2.out.1, S1.out⟩
end Go.Proofs.Ytahnkkifegdjeaa
