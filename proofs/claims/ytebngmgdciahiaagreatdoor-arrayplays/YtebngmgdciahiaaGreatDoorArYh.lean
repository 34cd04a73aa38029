/-
  A row of hits, as it comes in.
-/
import Derived.Test.YtebngmgdciahiaaGreatDoorArYs
import Derived.Test.YtebngmgdciahiaaGreatDoorArL
set_option maxRecDepth 100000
set_option linter.unusedVariables false
namespace Go.Proofs.YtebngmgdciahiaaGreatDoor
open Go.RowKit Go.ChangeShapes Go.WideShapes
open _root_.Go.Proofs.YtebngmgdciahiaaGreatDoor.Nm _root_.Go.Proofs.YtebngmgdciahiaaGreatDoor.Dk
/-- A hit. -/
structure Ht where
  t : Int
  e : Dd
  deriving Inhabited
structure HAt (w : World) (b o : Nat) (h : Ht) : Prop where
  c : w.cell? ⟨b, o, none⟩ = some (.int .i64 h.t)
  d : DAt w b (o + 1) h.e
theorem HAt.keep {w w' : World} {b o : Nat} {h : Ht} (k : HAt w b o h) (hb : Below w.heap.size w w') : HAt w' b o h := ⟨(hb.cell (p := ⟨b, o, none⟩) (block_lt_of_cell k.c)).trans k.c, k.d.keep hb⟩
def Hts (w : World) (a : Option Addr) (L : List Ht) : Prop := 0 < L.length → ∃ b o, a = some ⟨b, o, none⟩ ∧ ∀ i, i < L.length → HAt w b (o + i * 6) L[i]!
theorem Hts.keep {w w' : World} {a : Option Addr} {L : List Ht} (h : Hts w a L) (hb : Below w.heap.size w w') : Hts w' a L := fun hn => by
  obtain ⟨b, o, e, hc⟩ := h hn
  exact ⟨b, o, e, fun i hi => (hc i hi).keep hb⟩
structure Hok (h : Ht) : Prop where
  t0 : -9223372036854775808 ≤ h.t
  t1 : h.t ≤ 9223372036854775807
  d : Dok h.e
theorem cellsHt : Tryz.prog.cellsOf 31 = 6 := by kernel_rfl
theorem open_hcells {H : Type} {enc : TypeId × Value → H} {W : World} {base fuel : Nat} {held : Bool} {l : List Value} {x : DataW H × List MemPlace} (h : DataW.trod enc Tryz.prog W base (fun _ => true) held fuel 31 l = some x) :
    ∃ e : Ht, Hok e ∧ Inp W e.e.v.1 e.e.v.2.1 e.e.v.2.2 e.e.x ∧ l = [.int .i64 e.t, .int .i64 e.e.d, .int .i64 e.e.n, .string e.e.a, .string e.e.b, .slice e.e.v.1 e.e.v.2.1 e.e.v.2.2] := by
  obtain ⟨xs, n, _, _, hl, hlen, hel⟩ := DataW.trod_struct Tryz.underlying31 h
  rw [cellsHt] at hl
  match l, hl with
  | [e0, e1, e2, e3, e4, e5], _ =>
    match xs, hlen with
    | [x0, x1], _ =>
      have t0 := hel 0 _ rfl
      have t1 := hel 1 _ rfl
      simp [cells_i, cellsDt] at t0 t1
      obtain ⟨a0, ea0, _, wa0⟩ := DataW.trod_int Tryz.underlying3 t0
      obtain ⟨u, hu, hu2, el⟩ := open_dcells t1
      simp at ea0 el
      obtain ⟨rfl, rfl, rfl, rfl, rfl⟩ := el
      subst ea0
      obtain ⟨b0, b1⟩ := bounds_i64 wa0
      exact ⟨⟨a0, u⟩, ⟨b0, b1, hu⟩, hu2, rfl⟩
theorem cells6 {W : World} {a : Addr} {l : List Value} (h : W.cells? 0 a 6 = some l) : ∃ v0 v1 v2 v3 v4 v5, l = [v0, v1, v2, v3, v4, v5] ∧ W.cell? (a.add 0) = some v0 ∧ W.cell? (a.add 1) = some v1 ∧ W.cell? (a.add 2) = some v2 ∧ W.cell? (a.add 3) = some v3 ∧ W.cell? (a.add 4) = some v4 ∧ W.cell? (a.add 5) = some v5 := by
  unfold World.cells? at h
  rw [if_pos (Nat.zero_le _)] at h
  have e : List.range 6 = [0, 1, 2, 3, 4, 5] := rfl
  rw [e] at h
  simp only [List.mapM_cons, List.mapM_nil] at h
  cases h0 : W.cell? (a.add 0) with
  | none => simp [h0] at h
  | some v0 =>
    cases h1 : W.cell? (a.add 1) with
    | none => simp [h0, h1] at h
    | some v1 =>
      cases h2 : W.cell? (a.add 2) with
      | none => simp [h0, h1, h2] at h
      | some v2 =>
        cases h3 : W.cell? (a.add 3) with
        | none => simp [h0, h1, h2, h3] at h
        | some v3 =>
          cases h4 : W.cell? (a.add 4) with
          | none => simp [h0, h1, h2, h3, h4] at h
          | some v4 =>
            cases h5 : W.cell? (a.add 5) with
            | none => simp [h0, h1, h2, h3, h4, h5] at h
            | some v5 =>
              simp [h0, h1, h2, h3, h4, h5] at h
              exact ⟨v0, v1, v2, v3, v4, v5, h.symm, rfl, rfl, rfl, rfl, rfl, rfl⟩
theorem open_hits {H : Type} {enc : TypeId × Value → H} {W : World} {r : Reach} {b0 : Nat} {held : Bool} {v : Value} {d : DataW H} {p : List MemPlace} (hv : Value.okWide Tryz.prog W r b0 24 v) (h : DataW.Trod enc Tryz.prog W 0 (fun _ => true) held 24 v d p) :
    ∃ a c L, v = .slice a L.length c ∧ Hts W a L ∧ (a = none → L.length = 0 ∧ c = 0) ∧ L.length ≤ maxLen ∧ ∀ i, i < L.length → Hok L[i]! := by
  obtain ⟨a0, n0, c0, rfl⟩ := okWide_slice Tryz.underlying24 hv
  obtain ⟨fuel, hf⟩ := h
  rcases DataW.trod_slice Tryz.underlying24 hf with ⟨e, _⟩ | ⟨a, len, cap, elems, rest, n, _, e, _, _, hlc, hcm, hel, hcell, _⟩
  · simp [Value.cells] at e
    obtain ⟨rfl, rfl, rfl⟩ := e
    exact ⟨none, 0, [], rfl, fun k => absurd k (Nat.lt_irrefl _), fun _ => ⟨rfl, rfl⟩, by unfold maxLen; exact Nat.zero_le _, fun i hi => absurd hi (Nat.not_lt_zero _)⟩
  · simp [Value.cells] at e
    obtain ⟨rfl, rfl, rfl⟩ := e
    rw [cellsHt] at hcell
    have hx : ∀ i, i < n0 → ∃ u : Ht, Hok u ∧ Inp W u.e.v.1 u.e.v.2.1 u.e.v.2.2 u.e.x ∧ W.cell? ((a.add (i * 6)).add 0) = some (.int .i64 u.t) ∧ W.cell? ((a.add (i * 6)).add 1) = some (.int .i64 u.e.d) ∧ W.cell? ((a.add (i * 6)).add 2) = some (.int .i64 u.e.n) ∧ W.cell? ((a.add (i * 6)).add 3) = some (.string u.e.a) ∧ W.cell? ((a.add (i * 6)).add 4) = some (.string u.e.b) ∧ W.cell? ((a.add (i * 6)).add 5) = some (.slice u.e.v.1 u.e.v.2.1 u.e.v.2.2) := fun i hi => by
      have hi' := hcell i hi
      rw [List.getElem?_eq_getElem (by omega)] at hi'
      obtain ⟨l, hl, ht⟩ := Option.bind_eq_some_iff.1 hi'
      obtain ⟨u, hu, hu2, el⟩ := open_hcells ht
      obtain ⟨v0, v1, v2, v3, v4, v5, e4, k0, k1, k2, k3, k4, k5⟩ := cells6 hl
      rw [el] at e4
      simp at e4
      obtain ⟨rfl, rfl, rfl, rfl, rfl, rfl⟩ := e4
      exact ⟨u, hu, hu2, k0, k1, k2, k3, k4, k5⟩
    obtain ⟨L, hL⟩ : ∃ L : List Ht, L = (List.range n0).map (fun i => if h : i < n0 then Classical.choose (hx i h) else default) := ⟨_, rfl⟩
    have hlen : L.length = n0 := by rw [hL]; simp
    have hat : ∀ i (hi : i < n0), L[i]! = Classical.choose (hx i hi) := fun i hi => by
      rw [getElem!_pos L i (by omega)]
      simp only [hL, List.getElem_map, List.getElem_range]
      rw [dif_pos hi]
    refine ⟨some a, c0, L, by rw [hlen], fun hp => ?_, (fun e => by cases e), by omega, fun i hi => ?_⟩
    · obtain ⟨b, o, spot⟩ := a
      have hspot : spot = none := by
        have := (Classical.choose_spec (hx 0 (by omega))).2.2.1
        simpa [Addr.add] using World.cell?_spot this
      subst hspot
      refine ⟨b, o, rfl, fun i hi => ?_⟩
      have hs := (Classical.choose_spec (hx i (by omega))).2
      rw [hat i (by omega)]
      have q := fun j => (congrArg W.cell? (show (⟨b, o + i * 6 + j, none⟩ : Addr) = ((⟨b, o, none⟩ : Addr).add (i * 6)).add j by rw [add_plain, add_plain]))
      exact ⟨(q 0).trans hs.2.1, ⟨(q 1).trans hs.2.2.1, (q 2).trans hs.2.2.2.1, (q 3).trans hs.2.2.2.2.1, (q 4).trans hs.2.2.2.2.2.1, (q 5).trans hs.2.2.2.2.2.2, hs.1⟩⟩
    · rw [hat i (by omega)]; exact (Classical.choose_spec (hx i (by omega))).1
end Go.Proofs.YtebngmgdciahiaaGreatDoor
