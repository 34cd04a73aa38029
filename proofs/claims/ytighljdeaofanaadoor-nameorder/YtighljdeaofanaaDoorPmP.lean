/-
  What the program's Path of layer 6 answers.
-/
import Derived.Test.YtighljdeaofanaaDoorNmY
import Derived.Test.YtighljdeaofanaaDoorNmU
import Derived.Laws.MakeOwn
import Derived.Deep.RegionLaw
namespace Go.Proofs.YtighljdeaofanaaDoor
open Go.RowKit Nm
attribute [local go_sem ↓] Go.wp_at_zero Go.wp_at_succ
set_option linter.unusedVariables false

theorem lit2 (w : World) (x y : Nat) (hx : x < 256) (hy : y < 256) : Row (w.alloc (.cells #[.int .u8 ((x : Nat) : Int), .int .u8 ((y : Nat) : Int)] 5)) (some ⟨w.heap.size, 0, none⟩) 2 (fun i => if i = 0 then x else y) :=
  ⟨fun i => by split <;> omega, fun _ => ⟨w.heap.size, 0, rfl, fun i hi => by
    rw [Nat.zero_add, World.cell?_alloc_new]
    match i, hi with
    | 0, _ => rfl
    | 1, _ => rfl⟩⟩
/-- Two bytes more, that were just written out. -/
theorem push2 {w : World} {base k x y : Nat} {v : Value} {f : Nat → Nat} (h : Own w base v k f) (hx : x < 256) (hy : y < 256) (hk : k < 10000000) (hb : base ≤ w.heap.size) (hf : f k = x) (hg : f (k + 1) = y) :
    ∃ v' W, Sem.run Tryd.prog (Builtin.append_ #[30, 30] 30 #[v, .slice (some ⟨w.heap.size, 0, none⟩) 2 2]) (w.alloc (.cells #[.int .u8 ((x : Nat) : Int), .int .u8 ((y : Nat) : Int)] 5)) = .ok v' W ∧ Own W base v' (k + 2) f ∧ Below base w W := by
  obtain ⟨v', W, hr, ho, _, hbl⟩ := appendB (c := 2) (h.keep (bal w _)) (lit2 w x y hx hy) (fun e => absurd e (by omega)) (by omega) (by have := (bal w (.cells #[.int .u8 ((x : Nat) : Int), .int .u8 ((y : Nat) : Int)] 5)).size; omega)
  refine ⟨v', W, hr, ho.congr fun i hi => ?_, ((bal w _).mono hb).trans hbl⟩
  unfold cat
  split
  · rfl
  · by_cases e : i = k
    · subst e; simp [hf]
    · have : i = k + 1 := by omega
      subst this; simp [hg]
/-- make([]byte, 0, n). -/
theorem make0 (w : World) (n : Nat) (hn : n ≤ 10000000) (f : Nat → Nat) : ∃ W, Sem.run Tryd.prog (Instr.makeSlice 30 (.int .i64 0) (.int .i64 (n : Int))) w = .ok (.slice (some ⟨w.heap.size, 0, none⟩) 0 n) W ∧ Own W w.heap.size (.slice (some ⟨w.heap.size, 0, none⟩) 0 n) 0 f ∧ Below w.heap.size w W := by
  obtain ⟨i, hi, hzz⟩ := Option.map_eq_some_iff.1 info5
  simp only [Prod.mk.injEq] at hzz
  obtain ⟨hz, hs, hby⟩ := hzz
  obtain ⟨W, hr, ho, hg⟩ := run_make_own (P := Tryd.prog) w w.heap.size 30 5 i (.int .u8 0) 1 Tryd.underlying30 hi hz hs .i64 .i64 n (by rw [hby]; omega) (by unfold maxLen; omega) (Nat.le_refl _)
  exact ⟨W, hr, ho, (Below.refl _ _).grown hg (Nat.le_refl _) (fun k hk => by cases hk)⟩

theorem wraps_u8' (n : Int) (h₀ : 0 ≤ n) (h₁ : n < 2 ^ 8) : IntKind.u8.wrap n = n := by rw [IntKind.wrap_u8]; omega
theorem u8_low (a : Nat) (ha : a < 256) : bits .and .u8 (a : Int) 15 = ((a % 16 : Nat) : Int) := by
  have := bits_mask .u8 8 (by decide) wraps_u8' 4 (by omega) (a : Int) (by omega) (by omega)
  simpa using this
/-- The numbers of a list of bytes. -/
def nl (l : List UInt8) (i : Nat) : Nat := (l.getD i 0).toNat
theorem nl_lt (l : List UInt8) (i : Nat) : nl l i < 256 := (l.getD i 0).toNat_lt
theorem tx_nl (l : List UInt8) : tx (str (nl l) l.length) = l := by
  unfold tx str
  rw [strOfNums_data, List.map_map]
  apply List.ext_getElem?
  intro i
  by_cases h : i < l.length
  · rw [List.getElem?_map, List.getElem?_range h, List.getElem?_eq_getElem h]
    show some (UInt8.ofNat (((nl l i : Nat) : Int)).toNat) = _
    rw [Int.toNat_natCast]
    unfold nl
    rw [UInt8.ofNat_toNat, List.getD_eq_getElem?_getD, List.getElem?_eq_getElem h]
    rfl
  · rw [List.getElem?_eq_none (by simp; omega), List.getElem?_eq_none (by omega)]
theorem pth_at (l : List UInt8) : ∀ i, i < l.length → (pth l).getD (2 * i) 0 = hx ((l.getD i 0).toNat / 16) ∧ (pth l).getD (2 * i + 1) 0 = hx ((l.getD i 0).toNat % 16) := by
  induction l with
  | nil => intro i h; cases h
  | cons c t ih =>
    intro i h
    cases i with
    | zero => exact ⟨rfl, rfl⟩
    | succ i =>
      have := ih i (by simpa using h)
      have e1 : 2 * (i + 1) = 2 * i + 1 + 1 := by omega
      rw [e1]
      simpa [pth] using this
theorem sg2 (d : Nat) (h : d < 16) : (⟨#[48, 49, 50, 51, 52, 53, 54, 55, 56, 57, 97, 98, 99, 100, 101, 102]⟩ : ByteArray)[d]'h = hx d := by
  have : ∀ d : Fin 16, (⟨#[48, 49, 50, 51, 52, 53, 54, 55, 56, 57, 97, 98, 99, 100, 101, 102]⟩ : ByteArray)[d.1]'d.2 = hx d.1 := by decide
  exact this ⟨d, h⟩

set_option maxRecDepth 100000 in
set_option maxHeartbeats 1000000 in
theorem path_any (s : ByteArray) (w : World) (hs : s.size ≤ 1000000) :
    Calls Tryd.prog 17 #[.string s] w fun e w' => ∃ r, e = .returned (.string r) ∧ tx r = pth (tx s) ∧ Below w.heap.size w w' := by
  obtain ⟨m, hm⟩ : ∃ m, 2 * s.size = m := ⟨_, rfl⟩
  have im : 2 * (s.size : Int) = (m : Int) := by omega
  obtain ⟨W0, mk, ho, hb0⟩ := make0 w m (by omega) (nl (pth (tx s)))
  have HM : Hid (2 * s.size = m) := hm
  clear hm
  have HO : Hid (Own W0 w.heap.size (.slice (some ⟨w.heap.size, 0, none⟩) 0 m) 0 (nl (pth (tx s)))) := ho
  clear ho
  go_enter Tryd.func17, Tryd.ntmps17
  go_wp2
  go_loopw [3, 11] (fun v i wr => ∃ k : Nat, k ≤ s.size ∧ i = .int .i64 (k : Int) ∧ Own wr w.heap.size v (2 * k) (nl (pth (tx s))) ∧ Below w.heap.size w wr) (fun _ i _ => s.size - (intOf i).toNat)
  case atStart => exact ⟨0, by omega, rfl, HO.out, hb0⟩
  case round =>
    obtain ⟨k, hk, rfl, hO, hb⟩ := hrel
    clear mk HO hb0
    by_cases h1 : k < s.size
    · have i1 : (k : Int) < (s.size : Int) := by omega
      have i2 : (0 ≤ (k : Int) ∧ (k : Int) < (s.size : Int)) := ⟨by omega, by omega⟩
      obtain ⟨x, hxx⟩ : ∃ x, s[k] = x := ⟨_, rfl⟩
      have hxt : (s[k].toNat : Int) = (x.toNat : Int) := by rw [hxx]
      have hl := x.toNat_lt
      have hg : (tx s).getD k 0 = x := by rw [tx_getD s k h1, hxx]
      obtain ⟨p1, p2⟩ := pth_at (tx s) k (by rw [tx_length]; exact h1)
      rw [hg] at p1 p2
      obtain ⟨d, hd⟩ : ∃ d, x.toNat / 16 = d := ⟨_, rfl⟩
      have hd16 : d < 16 := by omega
      have id : (x.toNat : Int) / 16 = (d : Int) := by omega
      have d2 : (0 ≤ (d : Int) ∧ (d : Int) < 16) := ⟨by omega, by omega⟩
      obtain ⟨e, he⟩ : ∃ e, x.toNat % 16 = e := ⟨_, rfl⟩
      have he16 : e < 16 := by omega
      have ie : (x.toNat : Int) % 16 = (e : Int) := by omega
      have ib : bits .and .u8 (x.toNat : Int) 15 = (e : Int) := by rw [u8_low _ hl, he]
      have e2 : (0 ≤ (e : Int) ∧ (e : Int) < 16) := ⟨by omega, by omega⟩
      have f1 : nl (pth (tx s)) (2 * k) = (hx d).toNat := by unfold nl; rw [p1, hd]
      have f2 : nl (pth (tx s)) (2 * k + 1) = (hx e).toNat := by unfold nl; rw [p2, he]
      have sd := sg2 d hd16
      have se := sg2 e he16
      obtain ⟨v', W, hr, ho2, hb2⟩ := push2 (hO.keep (Below.refl _ _).drew) (hx d).toNat_lt (hx e).toNat_lt (by omega) (hb.trans (Below.refl _ _).drew).size f1 f2
      have HA : Hid _ := hr
      have HO2 : Hid (Own W w.heap.size v' (2 * (k + 1)) (nl (pth (tx s)))) := ho2
      have HB : Hid (Below w.heap.size w W) := (hb.trans (Below.refl _ _).drew).trans hb2
      clear hO hr ho2 hb2 hb p1 p2 f1 f2 hg hxx hd he
      go_wp2
      go_region_law (refine step_append_ran (by rfl) _ _ 30 (by rfl) _ _ _ _ (by rfl) (by rfl) HA.out ?_)
      all_goals
        go_wp2
        go_round
        case rel => exact ⟨k + 1, by omega, by go_num, HO2.out, HB.out⟩
        case measure => simp [intOf]; omega
    · have hkk : k = s.size := by omega
      have cv := own_conv hO (nl_lt _)
      have HR : Hid (tx (str (nl (pth (tx s))) (2 * k)) = pth (tx s)) := by
        have := tx_nl (pth (tx s))
        rw [pth_length, tx_length] at this
        unfold Hid
        rw [hkk]; exact this
      obtain ⟨r, hr⟩ : ∃ r, str (nl (pth (tx s))) (2 * k) = r := ⟨_, rfl⟩
      rw [hr] at cv HR
      have i1 : ¬ ((k : Int) < (s.size : Int)) := by omega
      clear hr hO hkk
      go_wp2
      go_ret
      exact ⟨_, rfl, HR.out, hb⟩
end Go.Proofs.YtighljdeaofanaaDoor
