/-
  The first sentence of each law of layer 3 (awake) is true.
-/
import Derived.Test.YtbfhmdphhhjlnaaReb
import Derived.Test.YtbfhmdphhhjlnaaVer
import Derived.Test.YtbfhmdphhhjlnaaSml
namespace Go.Proofs.Ytbfhmdphhhjlnaa
open Go.RowKit Gf
attribute [local go_sem ↓] Go.wp_at_zero Go.wp_at_succ

theorem hop {a b c : World} (h : Below a.heap.size a b) (k : Below b.heap.size b c) : Below a.heap.size a c := h.trans (k.mono h.size)

theorem lit1 (w : World) (x : Nat) (hx : x < 256) : Row (w.alloc (.cells #[.int .u8 ((x : Nat) : Int)] 5)) (some ⟨w.heap.size, 0, none⟩) 1 (fun _ => x) :=
  ⟨fun _ => hx, fun _ => ⟨w.heap.size, 0, rfl, fun i hi => by
    have : i = 0 := by omega
    subst this
    rw [Nat.zero_add, World.cell?_alloc_new]; rfl⟩⟩
theorem lit2 (w : World) (x y : Nat) (hx : x < 256) (hy : y < 256) : Row (w.alloc (.cells #[.int .u8 ((x : Nat) : Int), .int .u8 ((y : Nat) : Int)] 5)) (some ⟨w.heap.size, 0, none⟩) 2 (fun j => if j = 0 then x else y) :=
  ⟨fun j => by split <;> omega, fun _ => ⟨w.heap.size, 0, rfl, fun i hi => by
    rw [Nat.zero_add, World.cell?_alloc_new]
    match i, hi with
    | 0, _ => rfl
    | 1, _ => rfl⟩⟩

/-- Headers that were just written out. -/
theorem lit_hdr (w : World) (vs : Array Value) (n : Nat) (A : Nat → Option Addr) (L C : Nat → Nat) (F : Nat → Nat → Nat) (hv : ∀ i, i < n → vs[i]? = some (.slice (A i) (L i) (C i))) (hr : ∀ i, i < n → Row w (A i) (L i) (F i)) (hn : ∀ i, i < n → A i = none → L i = 0 ∧ C i = 0) (hl : ∀ i, L i ≤ 9223372036854775807) (hF : B F) :
    Mat (w.alloc (.cells vs 30)) (some ⟨w.heap.size, 0, none⟩) n A L C F :=
  ⟨fun _ => ⟨w.heap.size, 0, rfl, fun i hi => by rw [Nat.zero_add, World.cell?_alloc_new]; exact hv i hi⟩, fun i hi => (hr i hi).keep ((Below.refl _ _).alloc (Nat.le_refl _) _), hn, hl, hF⟩

theorem bal (w : World) (o : Obj) : Below w.heap.size w (w.alloc o) := (Below.refl _ _).alloc (Nat.le_refl _) _

/-- Two rows of two bytes, written out. -/
theorem lit22 (w : World) (x y z u : Nat) (hx : x < 256) (hy : y < 256) (hz : z < 256) (hu : u < 256) :
    Mat (((w.alloc (.cells #[.int .u8 ((x : Nat) : Int), .int .u8 ((y : Nat) : Int)] 5)).alloc (.cells #[.int .u8 ((z : Nat) : Int), .int .u8 ((u : Nat) : Int)] 5)).alloc (.cells #[.slice (some ⟨w.heap.size, 0, none⟩) 2 2, .slice (some ⟨w.heap.size + 1, 0, none⟩) 2 2] 30)) (some ⟨w.heap.size + 2, 0, none⟩) 2
      (fun i => if i = 0 then some ⟨w.heap.size, 0, none⟩ else some ⟨w.heap.size + 1, 0, none⟩) (fun _ => 2) (fun _ => 2) (fun i j => if i = 0 then (if j = 0 then x else y) else (if j = 0 then z else u)) := by
  have h := lit_hdr ((w.alloc (.cells #[.int .u8 ((x : Nat) : Int), .int .u8 ((y : Nat) : Int)] 5)).alloc (.cells #[.int .u8 ((z : Nat) : Int), .int .u8 ((u : Nat) : Int)] 5)) #[.slice (some ⟨w.heap.size, 0, none⟩) 2 2, .slice (some ⟨w.heap.size + 1, 0, none⟩) 2 2] 2
    (fun i => if i = 0 then some ⟨w.heap.size, 0, none⟩ else some ⟨w.heap.size + 1, 0, none⟩) (fun _ => 2) (fun _ => 2) (fun i j => if i = 0 then (if j = 0 then x else y) else (if j = 0 then z else u))
    (fun i hi => by
      match i, hi with
      | 0, _ => rfl
      | 1, _ => rfl)
    (fun i hi => by
      match i, hi with
      | 0, _ => exact (lit2 w x y hx hy).keep (bal _ _)
      | 1, _ =>
        have := lit2 (w.alloc (.cells #[.int .u8 ((x : Nat) : Int), .int .u8 ((y : Nat) : Int)] 5)) z u hz hu
        simpa using this)
    (fun i hi e => by
      match i, hi with
      | 0, _ => cases e
      | 1, _ => cases e)
    (fun _ => by omega) (fun i j => by dsimp only; split <;> split <;> omega)
  simpa using h

set_option maxRecDepth 100000 in
set_option maxHeartbeats 4000000 in
theorem awake_any (w : World) : Calls Try.prog 9 #[] w fun e w' => e = .returned (.bool true) ∧ Below w.heap.size w w' := by
  go_enter Try.func9, Try.ntmps9
  go_wp2_with fail
  go_at_call 10
  refine (rnew_yes 2 1 w (by omega) (by omega) (by omega)).mono ?_
  rintro e w1 ⟨p, S, rfl, _, hc, b1⟩
  have HC : Hid (Code w1 p 2 3 S) := hc
  have HB1 : Hid (Below w.heap.size w w1) := b1
  obtain ⟨W2, hW2⟩ : ∃ W, W = (((w1.alloc (.cells #[.int .u8 ((1 : Nat) : Int), .int .u8 ((2 : Nat) : Int)] 5)).alloc (.cells #[.int .u8 ((3 : Nat) : Int), .int .u8 ((4 : Nat) : Int)] 5)).alloc (.cells #[.slice (some ⟨w1.heap.size, 0, none⟩) 2 2, .slice (some ⟨w1.heap.size + 1, 0, none⟩) 2 2] 30)) := ⟨_, rfl⟩
  have b2 : Below w1.heap.size w1 W2 := by
    rw [hW2]
    exact (((Below.refl _ _).alloc (Nat.le_refl _) _).alloc (by simp) _).alloc (by simp; omega) _
  have m2 := lit22 w1 1 2 3 4 (by omega) (by omega) (by omega) (by omega)
  rw [← hW2] at m2
  have cE := encode_yes p 2 3 S W2 (some ⟨w1.heap.size + 2, 0, none⟩) 2 2 _ _ _ (hc.keep b2) m2 (by omega)
  rw [hW2] at cE
  have HW : Hid (W2 = (((w1.alloc (.cells #[.int .u8 ((1 : Nat) : Int), .int .u8 ((2 : Nat) : Int)] 5)).alloc (.cells #[.int .u8 ((3 : Nat) : Int), .int .u8 ((4 : Nat) : Int)] 5)).alloc (.cells #[.slice (some ⟨w1.heap.size, 0, none⟩) 2 2, .slice (some ⟨w1.heap.size + 1, 0, none⟩) 2 2] 30))) := hW2
  have HB2 : Hid (Below w1.heap.size w1 W2) := b2
  clear m2 hW2 b2 hc b1
  go_wp2_with fail
  go_at_call 11
  refine cE.mono ?_
  rw [← HW.out]
  rintro e w3 ⟨v, rfl, r3, b3⟩
  clear cE
  have b03 : Below w.heap.size w w3 := hop HB1.out (hop HB2.out b3)
  have hC3 := HC.out.keep (hop HB2.out b3)
  obtain ⟨va, vc, AV, CV, rfl, mV, _⟩ := r3.form (fun _ => by omega) (mm_B hC3.sys.lt)
  have hsz := b3.size
  obtain ⟨D, hD⟩ : ∃ D : Nat → Nat → Nat, D = (fun i j => if i = 0 then (if j = 0 then 1 else 2) else (if j = 0 then 3 else 4)) := ⟨_, rfl⟩
  have lD : B D := fun i j => by rw [hD]; dsimp only; split <;> split <;> omega
  rw [← hD] at mV
  obtain ⟨vb, vo, rfl, hcv⟩ := mV.lies (by omega)
  have x1 := hcv 1 (by omega)
  have x2 := hcv 2 (by omega)
  have K : Hid (Calls Try.prog 12 #[.pointer (some ⟨p, 0, none⟩), .slice (some ⟨w3.heap.size, 0, none⟩) 3 3] (w3.drew.alloc (.cells #[.slice none 0 0, .slice (AV 1) 2 (CV 1), .slice (AV 2) 2 (CV 2)] 30)) fun e w' => ∃ h a0 c0, e = .returned (.tuple #[.slice (some ⟨h, 0, none⟩) 3 3, .int .i64 0]) ∧ w'.cell? ⟨h, 0, none⟩ = some (.slice a0 2 c0) ∧ Sem.run Try.prog (convert 30 9 (.slice a0 2 c0)) w' = .ok (.string ⟨#[1, 2]⟩) w' ∧ Code w' p 2 3 S ∧ Below w.heap.size w w') := by
    have hm : Mat (w3.drew.alloc (.cells #[.slice none 0 0, .slice (AV 1) 2 (CV 1), .slice (AV 2) 2 (CV 2)] 30)) (some ⟨w3.drew.heap.size, 0, none⟩) 3 (fun i => if i = 0 then none else AV i) (fun i => if i = 0 then 0 else 2) (fun i => if i = 0 then 0 else CV i) (mm 2 S D) := lit_hdr w3.drew _ 3 _ _ _ _
      (fun i hi => by
        match i, hi with
        | 0, _ => rfl
        | 1, _ => rfl
        | 2, _ => rfl)
      (fun i hi => by
        match i, hi with
        | 0, _ => exact ⟨fun j => mm_B hC3.sys.lt _ _, fun q => absurd q (by simp)⟩
        | 1, _ => exact (mV.row 1 (by omega)).drewN 1
        | 2, _ => exact (mV.row 2 (by omega)).drewN 1)
      (fun i hi e => by
        match i, hi with
        | 0, _ => exact ⟨rfl, rfl⟩
        | 1, _ => have := mV.nil 1 (by omega) e; omega
        | 2, _ => have := mV.nil 2 (by omega) e; omega)
      (fun i => by split <;> omega) (mm_B hC3.sys.lt)
    have hb4 : Below w3.heap.size w3 (w3.drew.alloc (.cells #[.slice none 0 0, .slice (AV 1) 2 (CV 1), .slice (AV 2) 2 (CV 2)] 30)) := (Below.refl _ _).drew.alloc (Nat.le_refl _) _
    refine (rebuild_any p 2 3 S _ (some ⟨w3.heap.size, 0, none⟩) 3 _ _ _ _ (hC3.keep hb4) hm (fun i hi => by split <;> omega)).mono ?_
    rintro e w5 ⟨hre, b5⟩
    have hT := isT_pos (L := fun i => if i = 0 then 0 else 2) (N := 3) (x := 1) (by omega) (by simp)
    have hth : (th (isT (fun i => if i = 0 then 0 else 2) 3) 3).length = 2 := by rw [th_congr (q := fun i => decide (0 < (if i = 0 then 0 else 2))) (fun i _ => hT i)]; rfl
    obtain ⟨h5, A5, C5, rfl, m5⟩ := reb_good (D := D) (l := 2) hre hC3.sys lD (by omega) (by omega) (fun i _ q => by
      rw [hT i] at q
      have := of_decide_eq_true q
      by_cases z : i = 0
      · rw [if_pos z] at this; omega
      · rw [if_neg z]) (fun _ _ _ _ _ => rfl) (by omega)
    have cv := conv_row (c := C5 0) (m5.row 0 (by omega)) (fun e => (m5.nil 0 (by omega) e).1)
    have e5 : str (mm 2 S D 0) 2 = ⟨#[1, 2]⟩ := by
      rw [str_congr (g := fun j => if j = 0 then 1 else 2) (fun i hi => by rw [enc_top hC3.sys lD (by omega), hD]; rfl)]; rfl
    rw [e5] at cv
    exact ⟨h5, A5 0, C5 0, rfl, m5.cellAt (by omega), cv, (hC3.keep hb4).keep b5, hop b03 (hop hb4 b5)⟩
  clear mV r3 hcv HW
  generalize AV 1 = p1 at *
  generalize AV 2 = p2 at *
  generalize CV 1 = q1 at *
  generalize CV 2 = q2 at *
  clear hD lD D
  go_upto_region 7 with fail
  go_cut [5, 6] (fun s t wx => ∃ h5 a0 c0, s = .slice (some ⟨h5, 0, none⟩) 3 3 ∧ t = .int .i64 0 ∧ wx.cell? ⟨h5, 0, none⟩ = some (.slice a0 2 c0) ∧ Sem.run Try.prog (convert 30 9 (.slice a0 2 c0)) wx = .ok (.string ⟨#[1, 2]⟩) wx ∧ Code wx p 2 3 S ∧ Below w.heap.size w wx)
  case first =>
    go_region_with (go_at_call 12; refine K.out.mono ?_; rintro e w5 ⟨h5, a0, c0, rfl, y1, y2, y3, y4⟩)
    all_goals (go_wp2_with fail; go_meet; exact ⟨h5, a0, c0, rfl, rfl, y1, y2, y3, y4⟩)
  case rest =>
  obtain ⟨h5, a0, c0, rfl, rfl, y1, y2, y3, y4⟩ := hcut
  clear K
  rename World => w5
  have cN := N_any p 2 3 S w5 y3
  have cK := K_any p 2 3 S w5 y3
  clear y3 hC3 HC
  go_wp2_with fail
  go_at_call 22
  refine cN.mono ?_
  rintro e w' ⟨rfl, rfl⟩
  go_wp2_with fail
  go_at_call 23
  refine cK.mono ?_
  rintro e w' ⟨rfl, rfl⟩
  go_wp2
  go_ret
  exact ⟨rfl, y4⟩
end Go.Proofs.Ytbfhmdphhhjlnaa
