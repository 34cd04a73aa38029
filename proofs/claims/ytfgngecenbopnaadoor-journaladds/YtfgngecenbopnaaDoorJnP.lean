/-
  What journal.place, Find, Latest answer.
-/
import Derived.Test.YtfgngecenbopnaaDoorJnS
namespace Go.Proofs.YtfgngecenbopnaaDoor
open Go.RowKit Crc
attribute [local go_sem ↓] Go.wp_at_zero Go.wp_at_succ
set_option linter.unusedVariables false

/-- The version of an id stands at k, the first of that id. -/
structure Pl (F : Nat → Ver) (id : Int) (n k : Nat) : Prop where
  lt : k < n
  eq : (F k).id = id
  ne : ∀ j, j < k → (F j).id ≠ id
/-- There is none. -/
def No (F : Nat → Ver) (id : Int) (n : Nat) : Prop := ∀ j, j < n → (F j).id ≠ id
theorem pl_or (F : Nat → Ver) (id : Int) (n : Nat) : (∃ k, Pl F id n k) ∨ No F id n := by
  induction n with
  | zero => exact .inr fun j hj => absurd hj (by omega)
  | succ n ih =>
    rcases ih with ⟨k, hk⟩ | h
    · exact .inl ⟨k, by have := hk.lt; omega, hk.eq, hk.ne⟩
    · by_cases e : (F n).id = id
      · exact .inl ⟨n, by omega, e, h⟩
      · refine .inr fun j hj => ?_
        by_cases q : j = n
        · subst q; exact e
        · exact h j (by omega)
theorem Pl.one {F : Nat → Ver} {id : Int} {n j k : Nat} (h : Pl F id n j) (h' : Pl F id n k) : j = k := by
  rcases Nat.lt_trichotomy j k with q | q | q
  · exact absurd h.eq (h'.ne j q)
  · exact q
  · exact absurd h'.eq (h.ne k q)
theorem Pl.not {F : Nat → Ver} {id : Int} {n k : Nat} (h : Pl F id n k) (h' : No F id n) : False := h' k h.lt h.eq
/-- What place answers. -/
def PlX (F : Nat → Ver) (id : Int) (n : Nat) (x : Int) : Prop := (∃ k : Nat, x = (k : Int) ∧ Pl F id n k) ∨ (x = -1 ∧ No F id n)

set_option maxRecDepth 100000 in
theorem clo_any (v : Ver) (p : Nat) (id : Int) (w : World) (hp : w.cell? ⟨p, 0, none⟩ = some (.int .i64 id)) :
    Calls Tryd.prog 26 #[vv v, .pointer (some ⟨p, 0, none⟩)] w fun e w' => e = .returned (.bool (v.id == id)) ∧ Below w.heap.size w w' := by
  obtain ⟨W, hbx, ⟨c0, c1, c2, c3⟩, hb⟩ := box_ver w 33 v
  have hp' : W.cell? ⟨p, 0, none⟩ = some (.int .i64 id) := (hb.cell (p := ⟨p, 0, none⟩) (block_lt_of_cell hp)).trans hp
  have HB : Hid (Below w.heap.size w W) := hb
  clear hb hp
  unfold vv
  generalize v.id = i at *
  generalize v.mr = m at *
  generalize v.sz = z at *
  generalize v.sm = s at *
  go_enter Tryd.func26, Tryd.ntmps26
  go_wp2
  go_ret
  exact ⟨rfl, HB.out⟩

set_option maxRecDepth 100000 in
set_option maxHeartbeats 1000000 in
theorem index_any (a : Option Addr) (n c p : Nat) (id : Int) (F : Nat → Ver) (w : World) (hF : Vs w a n F) (hn : n ≤ maxLen) (hp : w.cell? ⟨p, 0, none⟩ = some (.int .i64 id)) :
    Calls Tryd.prog 25 #[.slice a n c, .func (.func 26) #[] #[.pointer (some ⟨p, 0, none⟩)]] w fun e w' => (∃ x, e = .returned (.int .i64 x) ∧ PlX F id n x) ∧ Below w.heap.size w w' := by
  unfold maxLen at hn
  have hpl := block_lt_of_cell hp
  go_enter Tryd.func25, Tryd.ntmps25
  go_wp2
  go_loopw [8] (fun i wr => ∃ k : Nat, k ≤ n ∧ i = .int .i64 k ∧ No F id k ∧ Below w.heap.size w wr) (fun i _ => n - (intOf i).toNat)
  case atStart => exact ⟨0, by omega, rfl, fun i hi => absurd hi (by omega), Below.refl _ _⟩
  case round =>
    obtain ⟨k, hk, rfl, hN, hb⟩ := hrel
    by_cases hlt : k < n
    · have ik : (k : Int) < (n : Int) := by omega
      obtain ⟨b1, o1, ea, hc⟩ := (hF.keep hb).lies (by omega)
      subst ea
      obtain ⟨v0, v1, v2, v3⟩ := hc k hlt
      have cC := clo_any (F k) p id wr ((hb.cell (p := ⟨p, 0, none⟩) hpl).trans hp)
      have HBr : Hid (Below w.heap.size w wr) := hb
      have HY : Hid ((F k).id = id → PlX F id n (k : Int)) := fun e => .inl ⟨k, rfl, hlt, e, hN⟩
      have HN : Hid ((F k).id ≠ id → No F id (k + 1)) := fun e j hj => by
        by_cases q : j = k
        · subst q; exact e
        · exact hN j (by omega)
      unfold vv at cC
      clear hc hN hb hF hp
      generalize F k = v at *
      obtain ⟨vi, vm, vz, vs⟩ := v
      dsimp only at *
      go_wp2_with fail
      go_at_call 26
      refine cC.mono ?_
      rintro e w2 ⟨rfl, b2⟩
      clear cC
      by_cases he : vi = id
      · have g : (vi == id) = true := by rw [beq_iff_eq]; exact he
        have HX := HY.out he
        rw [g]
        clear HY HN he g
        go_wp2
        go_ret
        exact ⟨⟨_, rfl, HX⟩, hop HBr.out b2⟩
      · have g : (vi == id) = false := beq_eq_false_iff_ne.2 he
        have HX : Hid (No F id (k + 1)) := HN.out he
        rw [g]
        clear HY HN he g
        go_wp2
        go_round
        case rel => exact ⟨k + 1, by omega, by go_num, HX.out, hop HBr.out b2⟩
        case measure => simp [intOf]; omega
    · have : k = n := by omega
      subst this
      have HX : Hid (PlX F id k (-1)) := .inr ⟨rfl, hN⟩
      have HBr : Hid (Below w.heap.size w wr) := hb
      clear hN hb
      go_wp2
      go_ret
      exact ⟨⟨_, rfl, HX.out⟩, HBr.out⟩

set_option maxRecDepth 100000 in
set_option maxHeartbeats 1000000 in
theorem place_any (t : Int) (s : ByteArray) (a : Option Addr) (n c : Nat) (id : Int) (F : Nat → Ver) (w : World) (hF : Vs w a n F) (hn : n ≤ maxLen) :
    Calls Tryd.prog 15 #[jv t s (.slice a n c), .int .i64 id] w fun e w' => (∃ x, e = .returned (.int .i64 x) ∧ PlX F id n x) ∧ Below w.heap.size w w' := by
  have hmf : ∀ (fn : Fn) (first cap : Array Value) (w : World), (Instr.makeFunc fn first cap).run Tryd.prog w = .ok (.func fn first cap) w := fun _ _ _ _ => rfl
  obtain ⟨W, hbx, hj, hb⟩ := box_jn w 26 t s (.slice a n c)
  obtain ⟨W2, hW2⟩ : ∃ W2, W.alloc (.cells #[.int .i64 id] 3) = W2 := ⟨_, rfl⟩
  have b2 : Below W.heap.size W W2 := by rw [← hW2]; exact bal _ _
  have p2 : W2.cell? ⟨W.heap.size, 0, none⟩ = some (.int .i64 id) := by rw [← hW2, World.cell?_alloc_new]; rfl
  obtain ⟨c0, c1, c2⟩ := hj.keep b2
  have cI := index_any a n c W.heap.size id F W2 (hF.keep (hop hb b2)) hn p2
  have HB : Hid (Below w.heap.size w W2) := hop hb b2
  clear hF hj hb b2
  unfold jv
  go_enter Tryd.func15, Tryd.ntmps15
  go_wp2_with fail
  go_at_call 25
  refine cI.mono ?_
  rintro e w2 ⟨⟨x, rfl, hx⟩, b3⟩
  have HX : Hid (PlX F id n x) := hx
  clear hx
  go_wp2
  go_ret
  exact ⟨⟨_, rfl, HX.out⟩, hop HB.out b3⟩
end Go.Proofs.YtfgngecenbopnaaDoor
