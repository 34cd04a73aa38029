/-
  The law RsTells of layer 3 (one row of those that fit changed, anywhere: they fit no more; whichever row was changed, it comes out right from as many others) answers true for every data, number and place.
-/
import Derived.Test.YtbfhmdphhhjlnaaRows
import Derived.WalkKit
import Derived.ProofKit
import Derived.OpenShut
import Derived.ShutString
import Derived.ChangeOld
import Derived.Below
import Derived.SizedLaws
import Derived.Test.YtbfhmdphhhjlnaaLw
namespace Go.Proofs.Ytbfhmdphhhjlnaa
namespace rsTells
open Go.ChangeShapes Go.WideShapes Go.ChangeAt Go.RowKit Gf
set_option linter.unusedVariables false
attribute [local go_sem ↓] Go.wp_at_zero Go.wp_at_succ

theorem own : ownKnob Try.prog.godebug = none := by kernel_rfl
theorem laidOut : laidOutB Try.prog = true := by kernel_rfl

theorem cells46 : Try.prog.cellsOf 46 = 2 := by kernel_rfl
theorem cells45 : Try.prog.cellsOf 45 = 1 := by kernel_rfl
theorem bounds_u16 {n : Int} (h : (Lit.int .u16 n).wf = true) : 0 ≤ n ∧ n ≤ 65535 := by
  simpa [Lit.wf, IntKind.min, IntKind.max, IntKind.signed, IntKind.bits] using h
set_option maxRecDepth 100000 in
theorem open_pair16 {H : Type} {enc : TypeId × Value → H} {W : World} {r : Reach} {b0 base : Nat} {sp : Nat → Bool} {held : Bool} {v : Value} {d : DataW H} {p : List MemPlace} (hv : Value.okWide Try.prog W r b0 46 v) (h : DataW.Trod enc Try.prog W base sp held 46 v d p) :
    ∃ x y : Nat, x < 65536 ∧ y < 65536 ∧ v = .agg #[.int .u16 (x : Int), .int .u16 (y : Int)] := by
  simp only [Value.okWide, Try.underlying46] at hv
  obtain ⟨cs, rfl, hsz, _⟩ := hv
  rw [cells46] at hsz
  obtain ⟨l⟩ := cs
  match l, hsz with
  | [e0, e1], _ =>
    obtain ⟨fuel, hf⟩ := h
    obtain ⟨xs, m, _, _, _, hlen, hel⟩ := DataW.trod_array Try.underlying46 hf
    have t0 := hel 0 (by omega)
    have t1 := hel 1 (by omega)
    rw [cells45] at t0 t1
    match xs, hlen with
    | [x0, x1], _ =>
      simp [Value.cells] at t0 t1
      obtain ⟨a, ea, _, wa⟩ := DataW.trod_int Try.underlying45 t0
      obtain ⟨b, eb, _, wb⟩ := DataW.trod_int Try.underlying45 t1
      simp at ea eb
      subst ea eb
      have ba := bounds_u16 wa
      have bb := bounds_u16 wb
      exact ⟨a.toNat, b.toNat, by omega, by omega, by rw [Int.toNat_of_nonneg ba.1, Int.toNat_of_nonneg bb.1]⟩

/-- One byte of one row, turned, is told. -/
theorem bad_told {n N ir kr d : Nat} {S F : Nat → Nat → Nat} (hS : IsSys n S) (hF : B F) (hn : n < N) (hN : N ≤ 255) (hir : ir < N) (hd : d ≠ 0) (hd2 : d < 256) :
    ¬ ∀ i, i < N → upd (mm n S F) ir (upd (mm n S F ir) kr (mm n S F ir kr ^^^ d)) i kr = mm n S (upd (mm n S F) ir (upd (mm n S F ir) kr (mm n S F ir kr ^^^ d))) i kr := fun hall => by
  by_cases h : ir < n
  · have e := hall n hn
    rw [upd_ne _ _ (by omega)] at e
    have e2 : mm n S (upd (mm n S F) ir (upd (mm n S F ir) kr (mm n S F ir kr ^^^ d))) n kr = mm n S F n kr ^^^ M (S n ir) d := by
      show xs n (fun t => M (S n t) (upd (mm n S F) ir (upd (mm n S F ir) kr (mm n S F ir kr ^^^ d)) t kr)) = _
      rw [xs_congr (g := fun t => M (S n t) (F t kr) ^^^ M (S n t) (if t = ir then d else 0)) (fun t ht => ?_), xs_xor, xs_single (f := fun t => M (S n t) (if t = ir then d else 0)) h (fun t _ hne => by rw [if_neg hne, M_zero_right])]
      · rw [if_pos rfl]; rfl
      · rw [← M_xor]
        by_cases q : t = ir
        · subst q; rw [upd_at, upd_at, if_pos rfl, enc_top hS hF h]
        · rw [upd_ne _ _ q, if_neg q, Nat.xor_zero, enc_top hS hF ht]
    rw [e2] at e
    have h0 : M (S n ir) d = 0 := by
      have := congrArg (fun z => mm n S F n kr ^^^ z) e
      simp only [Nat.xor_self, ← Nat.xor_assoc, Nat.zero_xor] at this
      exact this.symm
    have := M_pos (hS.lt n ir) hd2 (Nat.pos_of_ne_zero (hS.ne (Nat.le_refl _) (by omega) h)) (Nat.pos_of_ne_zero hd)
    omega
  · have e := hall ir hir
    rw [mm_rows (b := upd (mm n S F) ir (upd (mm n S F ir) kr (mm n S F ir kr ^^^ d))) (b' := F) (fun t ht => by rw [upd_ne _ _ (by omega), enc_top hS hF ht]), upd_at, upd_at] at e
    have := congrArg (fun z => mm n S F ir kr ^^^ z) e
    simp only [← Nat.xor_assoc, Nat.xor_self, Nat.zero_xor] at this
    exact hd this

/-- A byte of a row that is held, turned. -/
theorem Hold_put {w : World} {h N i0 g k x : Nat} {A : Nat → Option Addr} {L C : Nat → Nat} {F : Nat → Nat → Nat} (o : Hold w h N A L C F) (hi : i0 < N) (hg : A i0 = some ⟨g, 0, none⟩) (hgh : g ≠ h) (hk : k < L i0) (hx : x < 256) (hA : ∀ i, i < N → i ≠ i0 → 0 < L i → ∃ g', A i = some ⟨g', 0, none⟩ ∧ g' ≠ g) :
    Hold (w.setCell ⟨g, k, none⟩ (.int .u8 ((x : Nat) : Int))) h N A L C (upd F i0 (upd (F i0) k x)) := by
  have r0 := o.mat.row i0 hi
  have hlt : B (upd F i0 (upd (F i0) k x)) := fun i j => by
    by_cases e : i = i0
    · subst e; rw [upd_at]
      by_cases q : j = k
      · subst q; rw [upd_at]; exact hx
      · rw [upd_ne _ _ q]; exact o.mat.lt i j
    · rw [upd_ne _ _ e]; exact o.mat.lt i j
  refine ⟨⟨fun _ => ⟨h, 0, rfl, fun i hi' => ?_⟩, fun i hi' => ?_, o.mat.nil, o.mat.le, hlt⟩, fun i hi' => by rw [World.frozen?_setCell]; exact o.soft i hi'⟩
  · rw [Nat.zero_add, cell_far hgh]; exact o.mat.cellAt hi'
  · refine ⟨hlt i, fun hl => ?_⟩
    by_cases e : i = i0
    · subst e
      obtain ⟨b, oo, q, hc⟩ := r0.lies hl
      rw [hg] at q; injection q with q; injection q with q1 q2; subst q1 q2
      refine ⟨g, 0, hg, fun j hj => ?_⟩
      have cj := hc j hj
      rw [Nat.zero_add] at cj ⊢
      rw [upd_at]
      by_cases z : j = k
      · subst z; rw [cell_same cj, upd_at]
      · rw [cell_other (fun q => z q.symm), upd_ne _ _ z]; exact cj
    · obtain ⟨g', hg', hne⟩ := hA i hi' e hl
      obtain ⟨b, oo, q, hc⟩ := (o.mat.row i hi').lies hl
      rw [hg'] at q; injection q with q; injection q with q1 q2; subst q1 q2
      rw [upd_ne _ _ e]
      exact ⟨g', 0, hg', fun j hj => by rw [cell_far (fun z => hne z.symm)]; exact hc j hj⟩

set_option maxRecDepth 100000 in
set_option maxHeartbeats 8000000 in
theorem core (a : Option Addr) (n c : Nat) (A : Nat → Option Addr) (L C : Nat → Nat) (F : Nat → Nat → Nat) (x px py : Nat) (w : World) (h : Mat w a n A L C F) (hn : n ≤ maxLen) (hnc : n ≤ c) (hL : ∀ i, i < n → L i ≤ 140737488355328) (hx : x < 256) (hpx : px < 65536) (hpy : py < 65536) :
    Calls Try.prog 6 #[.slice a n c, .int .u8 (x : Int), .agg #[.int .u16 (px : Int), .int .u16 (py : Int)]] w fun e w' => e = .returned (.bool true) ∧ Below w.heap.size w w' := by
  obtain ⟨W0, hW0⟩ : ∃ W, W = w.alloc (.cells #[.int .u16 (px : Int), .int .u16 (py : Int)] 46) := ⟨_, rfl⟩
  have b0 : Below w.heap.size w W0 := by rw [hW0]; exact bal _ _
  have hs0 : w.heap.size < W0.heap.size := by rw [hW0]; simp
  have HP0 : Hid (W0.cell? ⟨w.heap.size, 0, none⟩ = some (.int .u16 (px : Int)) ∧ W0.cell? ⟨w.heap.size, 1, none⟩ = some (.int .u16 (py : Int))) := by
    rw [hW0]; constructor <;> (rw [World.cell?_alloc_new]; rfl)
  have HM : Hid (Mat W0 a n A L C F) := h.keep b0
  have cSm := fun w h => small_any a n c A L C F w h hn hL
  clear h hL
  unfold maxLen at hn
  go_enter Try.func6, Try.ntmps6
  go_wp2_with fail
  go_at_call 9
  rw [← hW0]
  clear hW0
  refine (awake_any _).mono ?_
  rintro e w1 ⟨rfl, b1⟩
  have HM1 : Hid (Mat w1 a n A L C F) := HM.out.keep b1
  have b01 : Below w.heap.size w w1 := hop b0 b1
  have HP1 : Hid (w1.cell? ⟨w.heap.size, 0, none⟩ = some (.int .u16 (px : Int)) ∧ w1.cell? ⟨w.heap.size, 1, none⟩ = some (.int .u16 (py : Int))) := ⟨(b1.cell (p := ⟨w.heap.size, 0, none⟩) hs0).trans HP0.out.1, (b1.cell (p := ⟨w.heap.size, 1, none⟩) hs0).trans HP0.out.2⟩
  go_wp2_with fail
  go_at_call 14
  refine (cSm w1 HM1.out).mono ?_
  rintro e w' ⟨hcase, rfl⟩
  clear cSm
  rcases hcase with rfl | ⟨rfl, h300, h4000⟩
  · go_wp2
    go_ret
    exact ⟨rfl, b01⟩
  by_cases hn0 : n = 0
  · subst hn0
    go_wp2
    go_ret
    exact ⟨rfl, b01⟩
  have g0 : ((n : Int) == 0) = false := by simp; omega
  by_cases hn30 : 30 < n
  · have g1 : (30 : Int) < (n : Int) := by omega
    go_wp2
    go_ret
    exact ⟨rfl, b01⟩
  have g1 : decide ((30 : Int) < (n : Int)) = false := decide_eq_false (by omega)
  obtain ⟨b, o, rfl, hc⟩ := HM1.out.lies (by omega)
  have c0 := hc 0 (by omega)
  simp only [Nat.add_zero] at c0
  have i0 : (0 : Int) < (n : Int) := by omega
  have hl4 := h4000 0 (by omega)
  clear hc h4000
  obtain ⟨a0, ha0⟩ : ∃ y, A 0 = y := ⟨_, rfl⟩
  obtain ⟨cc0, hcc0⟩ : ∃ y, C 0 = y := ⟨_, rfl⟩
  obtain ⟨l, hl⟩ : ∃ l, L 0 = l := ⟨_, rfl⟩
  have HL : Hid (L 0 = l) := hl
  rw [hl, ha0, hcc0] at c0
  rw [hl] at hl4
  clear hl ha0 hcc0
  by_cases hl0 : l = 0
  · subst hl0
    go_wp2
    go_ret
    exact ⟨rfl, b01⟩
  have g2 : ((l : Int) == 0) = false := by simp; omega
  obtain ⟨m, hm⟩ : ∃ m : Nat, 1 + (x : Int) % 10 = (m : Int) := ⟨1 + x % 10, by omega⟩
  have m1 : 1 ≤ m := by omega
  have m10 : m ≤ 10 := by omega
  go_wp2_with fail
  go_at_call 10
  refine (rnew_yes n m w1 (by omega) m1 (by omega)).mono ?_
  rintro e w2 ⟨p, S, rfl, _, hcode, b2⟩
  obtain ⟨N, hN⟩ : ∃ N, n + m = N := ⟨_, rfl⟩
  rw [hN] at hcode
  have HC2 : Hid (Code w2 p n N S) := hcode
  have HM2 : Hid (Mat w2 (some ⟨b, o, none⟩) n A L C F) := HM1.out.keep b2
  have hN1 : n < N := hcode.kN
  have hN2 : N ≤ 40 := by omega
  have hNi : (n : Int) + (m : Int) = (N : Int) := by omega
  have hs1 := b1.size
  have b12 : Below w1.heap.size w1 w2 := b2
  have b02 : Below w.heap.size w w2 := hop b01 b2
  clear hcode hN hm hx b2
  by_cases hal : ∀ i, i < n → L i = L 0
  rotate_left
  · have cE := encode_no p n N S w2 (some ⟨b, o, none⟩) n c A L C F HC2.out HM2.out (by omega) (fun q => hal q.2)
    clear hal
    go_wp2_with fail
    go_at_call 11
    refine cE.mono ?_
    rintro e w' ⟨rfl, rfl⟩
    clear cE
    go_wp2
    go_ret
    exact ⟨rfl, b02⟩
  have cE := encode_yes p n N S w2 (some ⟨b, o, none⟩) c l A C F HC2.out (HM2.out.even (fun i hi => by rw [hal i hi, HL.out]) (by omega)) (by omega)
  have HF : Hid (B F) := HM2.out.lt
  clear hal
  go_wp2_with fail
  go_at_call 11
  refine cE.mono ?_
  rintro e w3 ⟨v, rfl, r3, b3⟩
  clear cE
  obtain ⟨va, vc, AV, CV, rfl, mV, hbv, hvc⟩ := r3.form2 (fun _ => by omega) (mm_B HC2.out.sys.lt)
  have b13 : Below w1.heap.size w1 w3 := hop b12 b3
  have HV : Hid (Mat w3 va N AV (fun _ => l) CV (mm n S F)) := mV
  have HC3 : Hid (Code w3 p n N S) := HC2.out.keep b3
  have c03 := (b13.cell (p := ⟨b, o, none⟩) (block_lt_of_cell c0)).trans c0
  have p0 := (b13.cell (p := ⟨w.heap.size, 0, none⟩) (by show w.heap.size < _; omega)).trans HP1.out.1
  have p1 := (b13.cell (p := ⟨w.heap.size, 1, none⟩) (by show w.heap.size < _; omega)).trans HP1.out.2
  have b03 : Below w.heap.size w w3 := hop b02 b3
  have HS : Hid (IsSys n S) := HC3.out.sys
  clear r3 mV hbv c0 b02 b3 b13 b12 HP0 HP1
  have hN0 : (N : Int) ≠ 0 := by omega
  have hl00 : (l : Int) ≠ 0 := by omega
  obtain ⟨ir, hir⟩ : ∃ ir : Nat, (px : Int) % (N : Int) = (ir : Int) := ⟨px % N, by rw [Int.natCast_emod]⟩
  obtain ⟨kr, hkr⟩ : ∃ kr : Nat, (py : Int) % (l : Int) = (kr : Int) := ⟨py % l, by rw [Int.natCast_emod]⟩
  have lir : ir < N := by have := Int.emod_lt_of_pos (px : Int) (b := (N : Int)) (by omega); omega
  have lkr : kr < l := by have := Int.emod_lt_of_pos (py : Int) (b := (l : Int)) (by omega); omega
  go_wp2
  go_quiet (fail)
  go_wp2_with fail
  go_at_call 20
  obtain ⟨W3, hW3⟩ : ∃ W, W = w3.drewN nq := ⟨_, rfl⟩
  rw [← hW3]
  have b3d : Below w3.heap.size w3 W3 := by rw [hW3]; exact below_drewN (Below.refl _ _) nq
  have HV3 : Hid (Mat W3 va N AV (fun _ => l) CV (mm n S F)) := HV.out.keep b3d
  have HC4 : Hid (Code W3 p n N S) := HC3.out.keep b3d
  have b04 : Below w.heap.size w W3 := hop b03 b3d
  have hs3 : w.heap.size < w3.heap.size := block_lt_of_cell p0
  have hbs3 : b < w3.heap.size := block_lt_of_cell c03
  have c04 := (b3d.cell (p := ⟨b, o, none⟩) hbs3).trans c03
  have p14 := (b3d.cell (p := ⟨w.heap.size, 1, none⟩) hs3).trans p1
  have hsd := b3d.size
  clear hW3 b3d HV HC3 c03 p0 p1 b03
  have cC := copy_any va N vc AV (fun _ => l) CV (mm n S F) W3 HV3.out (by omega) (fun _ _ => by omega)
  refine cC.mono ?_
  rintro e w5 ⟨v5, rfl, bl5, b5⟩
  clear cC
  obtain ⟨hh, c5, A5, C5, rfl, hold5, hb5, hc5, hA5, hinj5⟩ := bl5.hold (by omega) (fun _ => by omega) (mm_B HS.out.lt)
  obtain ⟨g, hg, hgb, hgh, hgs⟩ := hA5 ir lir (by omega)
  have ch := hold5.mat.cellAt lir
  rw [hg] at ch
  obtain ⟨b', o', q', hcell⟩ := (hold5.mat.row ir lir).lies (by omega)
  rw [hg] at q'; injection q' with q'; injection q' with q1' q2'; subst q1' q2'
  have cg := hcell kr lkr
  rw [Nat.zero_add] at cg
  have fg := hgs kr lkr
  have c05 := (b5.cell (p := ⟨b, o, none⟩) (by show b < _; omega)).trans c04
  have p15 := (b5.cell (p := ⟨w.heap.size, 1, none⟩) (by show w.heap.size < _; omega)).trans p14
  have iir : (ir : Int) < (N : Int) := by omega
  have ikr : (kr : Int) < (l : Int) := by omega
  obtain ⟨d, hd⟩ : ∃ d : Nat, 1 + (py : Int) / 256 % 255 = (d : Int) := ⟨1 + py / 256 % 255, by omega⟩
  have hd1 : d ≠ 0 := by omega
  have hd2 : d < 256 := by omega
  have lG := mm_B (k := n) (b := F) HS.out.lt ir kr
  have hxx := u8_xor_nat (mm n S F ir kr) d lG hd2
  have HH5 : Hid (Hold w5 hh N A5 (fun _ => l) C5 (mm n S F)) := hold5
  have HA5 : Hid (∀ i, i < N → i ≠ ir → 0 < l → ∃ g', A5 i = some ⟨g', 0, none⟩ ∧ g' ≠ g) := fun i hi hne hl => by
    obtain ⟨g', hg', _⟩ := hA5 i hi hl
    exact ⟨g', hg', fun e => hne (hinj5 i ir hi lir hl (by omega) (by rw [hg', hg, e]))⟩
  have HG5 : Hid (A5 ir = some ⟨g, 0, none⟩) := hg
  obtain ⟨z, hz⟩ : ∃ z, mm n S F ir kr = z := ⟨_, rfl⟩
  have HZ : Hid (mm n S F ir kr = z) := hz
  rw [hz] at cg hxx lG
  clear bl5 hold5 hA5 hinj5 hgs hz hcell c04 p14 hg
  generalize C5 ir = x5 at ch
  go_wp2
  go_quiet (fail)
  go_wp2
  obtain ⟨W5, hW5⟩ : ∃ W, W = w5.drewN nq := ⟨_, rfl⟩
  have ch' : W5.cell? ⟨hh, ir, none⟩ = some (.slice (some ⟨g, 0, none⟩) l x5) := by rw [hW5]; exact ch
  have cg' : W5.cell? ⟨g, kr, none⟩ = some (.int .u8 (z : Int)) := by rw [hW5]; exact cg
  have fg' : W5.frozen? ⟨g, kr, none⟩ = false := by rw [hW5]; exact fg
  have p15' : W5.cell? ⟨w.heap.size, 1, none⟩ = some (.int .u16 (py : Int)) := by rw [hW5]; exact p15
  have hold5 : Hold W5 hh N A5 (fun _ => l) C5 (mm n S F) := by rw [hW5]; exact HH5.out.drewN nq
  have b5' : Below W3.heap.size W3 W5 := by rw [hW5]; exact below_drewN b5 nq
  rw [← hW5]
  clear ch cg fg p15 c05 hW5 HH5
  have HP : Hid (Hold (W5.setCell ⟨g, kr, none⟩ (.int .u8 ((z ^^^ d : Nat) : Int))) hh N A5 (fun _ => l) C5 (upd (mm n S F) ir (upd (mm n S F ir) kr (z ^^^ d)))) :=
    Hold_put hold5 lir HG5.out hgh lkr (xor_lt lG hd2) HA5.out
  have HBp : Hid (Below W3.heap.size W3 (W5.setCell ⟨g, kr, none⟩ (.int .u8 ((z ^^^ d : Nat) : Int)))) := b5'.setCell hgb _
  clear hold5 HA5
  refine wp_region_still_tail 20 (by kernel_rfl) (by kernel_rfl) ?_
  change wpStill _ _ W5.drew _ _ _
  simp only [List.take_succ_cons, List.take_zero, List.drop_succ_cons, List.drop_zero]
  repeat still_step
  refine wpStill_nil ?_
  obtain ⟨G, hG⟩ : ∃ G, G = upd (mm n S F) ir (upd (mm n S F ir) kr (z ^^^ d)) := ⟨_, rfl⟩
  have HGd : Hid (G = upd (mm n S F) ir (upd (mm n S F ir) kr (z ^^^ d))) := hG
  rw [← hG] at HP
  clear hG
  have HC6 : Hid (Code ((W5.setCell ⟨g, kr, none⟩ (.int .u8 ((z ^^^ d : Nat) : Int))).drewN 1) p n N S) := (HC4.out.keep HBp.out).drewN 1
  have HV6 : Hid (Mat ((W5.setCell ⟨g, kr, none⟩ (.int .u8 ((z ^^^ d : Nat) : Int))).drewN 1) va N AV (fun _ => l) CV (mm n S F)) := (HV3.out.keep HBp.out).drewN 1
  have HP6 : Hid (Hold ((W5.setCell ⟨g, kr, none⟩ (.int .u8 ((z ^^^ d : Nat) : Int))).drewN 1) hh N A5 (fun _ => l) C5 G) := HP.out.drewN 1
  have HB6 : Hid (Below w.heap.size w ((W5.setCell ⟨g, kr, none⟩ (.int .u8 ((z ^^^ d : Nat) : Int))).drewN 1)) := hop b04 (below_drewN HBp.out 1)
  have hhw : w.heap.size ≤ hh := by have := b04.size; omega
  go_wp2_with fail
  go_at_call 13
  refine (verify_any p n N S ((W5.setCell ⟨g, kr, none⟩ (.int .u8 ((z ^^^ d : Nat) : Int))).drewN 1) (some ⟨hh, 0, none⟩) c5 l A5 C5 G HC6.out HP6.out.mat hc5 (by omega)).mono ?_
  rintro e w6 ⟨hv, b6⟩
  rcases hv with ⟨_, hall⟩ | ⟨rfl, _⟩
  · exfalso
    refine bad_told (N := N) (ir := ir) (kr := kr) (d := d) HS.out HF.out hN1 (by omega) lir hd1 hd2 fun i hi => ?_
    have := hall i hi kr lkr
    rw [HGd.out] at this
    rw [HZ.out]
    exact this.symm
  have b36 : Below W3.heap.size W3 w6 := hop (below_drewN HBp.out 1) b6
  have HP7 : Hid (Hold w6 hh N A5 (fun _ => l) C5 G) := HP6.out.keep b6
  have ch7 := HP7.out.mat.cellAt lir
  have fh7 := HP7.out.soft ir lir
  have HH8 : Hid (Hold (w6.setCell ⟨hh, ir, none⟩ (.slice none 0 0)) hh N (upd A5 ir none) (upd (fun _ => l) ir 0) (upd C5 ir 0) G) := by
    have := HP7.out.set (a := none) (l := 0) (c := 0) (f := G ir) lir ⟨fun j => HP7.out.mat.lt _ _, fun q => absurd q (by omega)⟩ (fun _ => ⟨rfl, rfl⟩) (by omega)
    rwa [upd_id] at this
  have b38 : Below W3.heap.size W3 (w6.setCell ⟨hh, ir, none⟩ (.slice none 0 0)) := b36.setCell hb5 _
  have b08 : Below w.heap.size w (w6.setCell ⟨hh, ir, none⟩ (.slice none 0 0)) := hop b04 b38
  have HV8 : Hid (Mat (w6.setCell ⟨hh, ir, none⟩ (.slice none 0 0)) va N AV (fun _ => l) CV (mm n S F)) := HV3.out.keep b38
  have cR := rebuild_any p n N S (w6.setCell ⟨hh, ir, none⟩ (.slice none 0 0)) (some ⟨hh, 0, none⟩) c5 _ _ _ G (HC4.out.keep b38) HH8.out.mat (fun i hi => by unfold upd; dsimp only; split <;> omega)
  have K : Hid (Calls Try.prog 12 #[.pointer (some ⟨p, 0, none⟩), .slice (some ⟨hh, 0, none⟩) N c5] (w6.setCell ⟨hh, ir, none⟩ (.slice none 0 0)) fun e w' => ∃ h' A' C', e = .returned (.tuple #[.slice (some ⟨h', 0, none⟩) N N, .int .i64 0]) ∧ Mat w' (some ⟨h', 0, none⟩) N A' (fun _ => l) C' (mm n S F) ∧ Mat w' va N AV (fun _ => l) CV (mm n S F) ∧ Below w.heap.size w w') := by
    refine cR.mono ?_
    rintro e w9 ⟨hre, b9⟩
    obtain ⟨y, hy, hyi⟩ : ∃ y, y < N ∧ y ≠ ir := by
      by_cases q : ir = 0
      · exact ⟨1, by omega, by omega⟩
      · exact ⟨0, by omega, fun e => q e.symm⟩
    have hT0 := isT_pos (L := upd (fun _ => l) ir 0) (N := N) (x := y) hy (by rw [upd_ne _ _ hyi]; omega)
    have hT : ∀ j, isT (upd (fun _ => l) ir 0) N j = !(upd (fun _ => false) ir true j) := fun j => by
      rw [hT0 j]
      by_cases q : j = ir
      · subst q; rw [upd_at, upd_at]; rfl
      · rw [upd_ne _ _ q, upd_ne _ _ q]; simp; omega
    have h1 := th_upd (p := fun _ => false) lir rfl
    have h0 : (th (fun _ => false) N).length = 0 := by unfold th; simp
    have h2 := th_both (upd (fun _ => false) ir true) N
    have hth : th (isT (upd (fun _ => l) ir 0) N) N = th (fun j => !(upd (fun _ => false) ir true j)) N := th_congr (fun j _ => hT j)
    have hne : ∀ j, isT (upd (fun _ => l) ir 0) N j = true → j ≠ ir := fun j q e => by
      rw [hT j, e, upd_at] at q; cases q
    obtain ⟨h5, A6, C6, rfl, m5⟩ := reb_good (D := F) (l := l) hre HS.out HF.out (by omega) (by omega) (fun j _ q => by rw [upd_ne _ _ (hne j q)]) (fun j _ q k _ => by rw [HGd.out, upd_ne _ _ (hne j q)]) (by rw [hth]; omega)
    exact ⟨h5, A6, C6, rfl, m5, HV8.out.keep b9, hop b08 b9⟩
  clear b6 HC6 HP6 HV6 HB6 HC4 HV3 HP HBp ch' cg' fg' p15' hxx b36 b38 cR HH8 HP7 HV8
  generalize A5 ir = a5 at *
  generalize C5 ir = x5' at *
  go_wp2_with fail
  go_at_call 12
  refine K.out.mono ?_
  rintro e w9 ⟨h9, A9, C9, rfl, m9, mv9, b9⟩
  have cQ := rsame_bel (some ⟨h9, 0, none⟩) va N N vc A9 AV (fun _ => l) (fun _ => l) C9 CV _ _ w9 m9 mv9 (by unfold maxLen; omega) (fun i hi => ⟨rfl, fun _ _ => rfl⟩)
  clear m9 mv9
  go_wp2_with fail
  go_at_call 19
  refine cQ.mono ?_
  rintro e w10 ⟨rfl, b10⟩
  clear cQ
  go_wp2
  go_ret
  exact ⟨rfl, hop b9 b10⟩


set_option maxRecDepth 100000 in
theorem lifted (os : Os) (started : os.Started) (H : Type) (enc : TypeId × Value → H) :
    ReturnsInHanded {} Try.checked os 6 .any (Rows.rsTellsSpec.pre6 enc Try.prog Try.f6 Rows.rsTellsRow.domain false) (Rows.rsTellsSpec.post enc Try.prog Try.f6 false true false false) := by
  refine returnsInHanded_of_change_sized (C := Try.checked) own started (by kernel_rfl) Try.func6
    (ChangeSpec.witness6 (enc := enc) (C := Try.checked) false ⟨#[], #[.slice none 0 0, .int .u8 0, .agg #[.int .u16 0, .int .u16 0]], []⟩ 8 (by kernel_rfl) (by kernel_rfl) (by kernel_rfl) (by kernel_rfl)) ?_
  intro W base args ds gs before hval0 hW hcnd hsz0 _
  have hval : ∀ (j : Nat) t v, Try.f6.params[j]? = some t → args[j]? = some v → Value.okWide Try.prog W .any base t v := hval0
  have hsz : (DataW.weightsEach Try.prog (Try.f6.params.toList ++ Rows.rsTellsSpec.plain.varTypes Try.prog) (ds ++ gs)).all (· ≤ reachBytes) = true := hsz0
  have hW' := hW
  obtain ⟨p, q, hA0, hV, rfl, hfz, hnd⟩ := hW
  have hA : DataW.TrodAll enc Try.prog W 0 (fun _ => true) true Try.f6.params.toList args.toList ds p := hA0
  rw [Try.params6] at hA hval hsz
  obtain ⟨v0, vs0, d0, ds0, p0, q0, hargs, rfl, rfl, h0, r0⟩ := trodAll_cons hA
  obtain ⟨v1, vs1, d1, ds1, p1, q1, rfl, rfl, rfl, h1, r1⟩ := trodAll_cons r0
  obtain ⟨v2, vs2, d2, ds2, p2, q2, rfl, rfl, rfl, h2, r2⟩ := trodAll_cons r1
  obtain ⟨rfl, rfl, rfl⟩ := trodAll_nil r2
  obtain rfl : args = #[v0, v1, v2] := by cases args; simp_all
  obtain ⟨rfl, rfl⟩ := trodVars_none hV
  obtain ⟨a0, len0, cap0, rfl⟩ := okWide_slice Try.underlying27 (hval 0 27 v0 rfl rfl)
  have k0 := h0
  have lt0 : ∀ x ∈ p0, x.block < W.heap.size := by obtain ⟨m, hm⟩ := k0; exact DataW.trod_lt m _ _ _ hm
  have hz0 : ∀ x ∈ d0.weights Try.prog 27, x ≤ reachBytes := fun x hx => by
    have := List.all_eq_true.1 hsz x (DataW.weights_mem_each (j := 0) (t := 27) (d := d0) rfl rfl x hx)
    simpa using this
  obtain ⟨A0, L0, C0, F0, m0, e0, g0, z0⟩ := open_mat2 h0 hz0
  have k1 := h1
  have lt1 : ∀ x ∈ p1, x.block < W.heap.size := by obtain ⟨m, hm⟩ := k1; exact DataW.trod_lt m _ _ _ hm
  obtain ⟨x1, e1, rfl⟩ := open_u8 (hval 1 5 v1 rfl rfl) h1
  have k2 := h2
  have lt2 : ∀ x ∈ p2, x.block < W.heap.size := by obtain ⟨m, hm⟩ := k2; exact DataW.trod_lt m _ _ _ hm
  obtain ⟨x2, y2, e2, g2, rfl⟩ := open_pair16 (hval 2 46 v2 rfl rfl) h2
  clear hA0 hval0 hsz0
  refine (core a0 len0 cap0 A0 L0 C0 F0 x1 x2 y2 W m0 e0 g0 z0 e1 e2 g2).mono fun e W' ⟨he, bel⟩ => ?_
  subst he
  exact ⟨_, rfl, _, _, _, [], _, [], hW', trodAll_mk1 (shut_bool Try.underlying4 _), (trodAll_cons_mk (Below.trod laidOut (by kernel_rfl) (of_decide_eq_true (by kernel_rfl)) k0 bel lt0) (trodAll_cons_mk (Below.trod laidOut (by kernel_rfl) (of_decide_eq_true (by kernel_rfl)) k1 bel lt1) (trodAll_cons_mk (Below.trod laidOut (by kernel_rfl) (of_decide_eq_true (by kernel_rfl)) k2 bel lt2) trodAll_mk0))), rfl, bel.frame _, fun h => by cases h⟩

theorem over : Rows.rsTellsRow.holds Try.pinned (OpenSpec.ofChange Rows.rsTellsSpec) :=
  OpenClaim.holds_of_wide 6 Try.f6 rfl rfl rfl rfl rfl rfl rfl ⟨rfl, rfl, rfl, rfl, rfl⟩ rfl rfl rfl rfl rfl (by kernel_rfl) Try.func6 (by kernel_rfl)
    (of_decide_eq_true (by kernel_rfl)) (by unfold Func.isWrapper; first | (rw [if_pos (by decide +kernel)]; kernel_rfl) | (rw [if_neg (by decide +kernel)]; exact ⟨rfl, rfl⟩))
    (fun os started H enc _ => lifted os started H enc)

end rsTells

/-- The statement. -/
theorem rsTells_holds : Rows.RsTellsSaid := rsTells.over
#print axioms rsTells_holds
end Go.Proofs.Ytbfhmdphhhjlnaa
