/-
  Rows of entries, questions, texts as they come in.
-/
import Derived.Test.YtahnkkifegdjeaaEnA
import Derived.ChangeSame
import Derived.ChangeMaps5
namespace Go.Proofs.Ytahnkkifegdjeaa
open Go.RowKit Go.ChangeShapes Go.WideShapes

theorem cellsEt : Try.prog.cellsOf 48 = 6 := by kernel_rfl
theorem cellsVt : Try.prog.cellsOf 46 = 4 := by kernel_rfl
theorem cellsQt : Try.prog.cellsOf 24 = 4 := by kernel_rfl
theorem cells_i : Try.prog.cellsOf 3 = 1 := by kernel_rfl
theorem cells_b : Try.prog.cellsOf 4 = 1 := by kernel_rfl
theorem cells_u : Try.prog.cellsOf 44 = 1 := by kernel_rfl
theorem cells_s : Try.prog.cellsOf 9 = 1 := by kernel_rfl
theorem bounds_u32 {n : Int} (h : (Lit.int .u32 n).wf = true) : 0 ≤ n ∧ n ≤ 4294967295 := by
  simpa [Lit.wf, IntKind.min, IntKind.max, IntKind.signed, IntKind.bits] using h
set_option maxRecDepth 100000 in
/-- Four cells that are read as a version. -/
theorem open_vcells {H : Type} {enc : TypeId × Value → H} {W : World} {base fuel : Nat} {sp : Nat → Bool} {held : Bool} {l : List Value} {x : DataW H × List MemPlace} (h : DataW.trod enc Try.prog W base sp held fuel 46 l = some x) :
    ∃ (i : Int) (m : Bool) (z : Int) (s : Nat), l = [.int .i64 i, .bool m, .int .i64 z, .int .u32 (s : Int)] := by
  obtain ⟨xs, n, _, _, hl, hlen, hel⟩ := DataW.trod_struct Try.underlying46 h
  rw [cellsVt] at hl
  match l, hl with
  | [e0, e1, e2, e3], _ =>
    match xs, hlen with
    | [x0, x1, x2, x3], _ =>
      have t0 := hel 0 _ rfl
      have t1 := hel 1 _ rfl
      have t2 := hel 2 _ rfl
      have t3 := hel 3 _ rfl
      simp [cells_i, cells_b, cells_u] at t0 t1 t2 t3
      obtain ⟨a0, ea0, _, wa0⟩ := DataW.trod_int Try.underlying3 t0
      obtain ⟨a1, ea1, _⟩ := DataW.trod_bool Try.underlying4 t1
      obtain ⟨a2, ea2, _, wa2⟩ := DataW.trod_int Try.underlying3 t2
      obtain ⟨a3, ea3, _, wa3⟩ := DataW.trod_int Try.underlying44 t3
      simp at ea0 ea1 ea2 ea3
      subst ea0 ea1 ea2 ea3
      have b3 := bounds_u32 wa3
      exact ⟨a0, a1, a2, a3.toNat, by rw [Int.toNat_of_nonneg b3.1]⟩
set_option maxRecDepth 100000 in
/-- Six cells that are read as an entry. -/
theorem open_ecells {H : Type} {enc : TypeId × Value → H} {W : World} {base fuel : Nat} {sp : Nat → Bool} {held : Bool} {l : List Value} {x : DataW H × List MemPlace} (h : DataW.trod enc Try.prog W base sp held fuel 48 l = some x) :
    ∃ e : En, e.key.size ≤ maxLen ∧ l = cellsE e := by
  obtain ⟨xs, n, _, _, hl, hlen, hel⟩ := DataW.trod_struct Try.underlying48 h
  rw [cellsEt] at hl
  match l, hl with
  | [e0, e1, e2, e3, e4, e5], _ =>
    match xs, hlen with
    | [x0, x1, x2], _ =>
      have t0 := hel 0 _ rfl
      have t1 := hel 1 _ rfl
      have t2 := hel 2 _ rfl
      simp [cells_s, cells_b, cellsVt] at t0 t1 t2
      obtain ⟨a0, ea0, _, wa0⟩ := DataW.trod_string Try.underlying9 t0
      obtain ⟨i, m, z, s, ev⟩ := open_vcells t1
      obtain ⟨a2, ea2, _⟩ := DataW.trod_bool Try.underlying4 t2
      simp at ea0 ea2 ev
      obtain ⟨rfl, rfl, rfl, rfl⟩ := ev
      subst ea0 ea2
      exact ⟨⟨a0, i, m, z, s, a2⟩, wa0, rfl⟩
theorem cells6 {W : World} {a : Addr} {l : List Value} (h : W.cells? 0 a 6 = some l) : ∃ v0 v1 v2 v3 v4 v5, l = [v0, v1, v2, v3, v4, v5] ∧ W.cell? (a.add 0) = some v0 ∧ W.cell? (a.add 1) = some v1 ∧ W.cell? (a.add 2) = some v2 ∧ W.cell? (a.add 3) = some v3 ∧ W.cell? (a.add 4) = some v4 ∧ W.cell? (a.add 5) = some v5 := by
  unfold World.cells? at h
  rw [if_pos (Nat.zero_le _)] at h
  have e : List.range 6 = [0, 1, 2, 3, 4, 5] := rfl
  rw [e] at h
  simp only [List.mapM_cons, List.mapM_nil] at h
  cases h0 : W.cell? (a.add 0) with
  | none => simp [h0] at h
  | some v0 =>
    cases h1 : W.cell? (a.add 1) with
    | none => simp [h0, h1] at h
    | some v1 =>
      cases h2 : W.cell? (a.add 2) with
      | none => simp [h0, h1, h2] at h
      | some v2 =>
        cases h3 : W.cell? (a.add 3) with
        | none => simp [h0, h1, h2, h3] at h
        | some v3 =>
          cases h4 : W.cell? (a.add 4) with
          | none => simp [h0, h1, h2, h3, h4] at h
          | some v4 =>
            cases h5 : W.cell? (a.add 5) with
            | none => simp [h0, h1, h2, h3, h4, h5] at h
            | some v5 =>
              simp [h0, h1, h2, h3, h4, h5] at h
              exact ⟨v0, v1, v2, v3, v4, v5, h.symm, rfl, rfl, rfl, rfl, rfl, rfl⟩
set_option maxRecDepth 100000 in
theorem open_ents {H : Type} {enc : TypeId × Value → H} {W : World} {r : Reach} {b0 : Nat} {sp : Nat → Bool} {held : Bool} {v : Value} {d : DataW H} {p : List MemPlace} (hv : Value.okWide Try.prog W r b0 22 v) (h : DataW.Trod enc Try.prog W 0 sp held 22 v d p) :
    ∃ a c L, v = .slice a L.length c ∧ Es W a L ∧ (a = none → L.length = 0 ∧ c = 0) ∧ L.length ≤ maxLen ∧ L.length ≤ c ∧ ∀ i, i < L.length → L[i]!.key.size ≤ maxLen := by
  obtain ⟨a0, n0, c0, rfl⟩ := okWide_slice Try.underlying22 hv
  obtain ⟨fuel, hf⟩ := h
  rcases DataW.trod_slice Try.underlying22 hf with ⟨e, _⟩ | ⟨a, len, cap, elems, rest, n, _, e, _, _, hlc, hcm, hel, hcell, _⟩
  · simp [Value.cells] at e
    obtain ⟨rfl, rfl, rfl⟩ := e
    exact ⟨none, 0, [], rfl, Es.nil _ _, fun _ => ⟨rfl, rfl⟩, by unfold maxLen; exact Nat.zero_le _, Nat.le_refl _, fun i hi => absurd hi (Nat.not_lt_zero _)⟩
  · simp [Value.cells] at e
    obtain ⟨rfl, rfl, rfl⟩ := e
    rw [cellsEt] at hcell
    have hx : ∀ i, i < n0 → ∃ u : En, u.key.size ≤ maxLen ∧ W.cell? ((a.add (i * 6)).add 0) = some (.string u.key) ∧ W.cell? ((a.add (i * 6)).add 1) = some (.int .i64 u.id) ∧ W.cell? ((a.add (i * 6)).add 2) = some (.bool u.mr) ∧ W.cell? ((a.add (i * 6)).add 3) = some (.int .i64 u.sz) ∧ W.cell? ((a.add (i * 6)).add 4) = some (.int .u32 (u.sm : Int)) ∧ W.cell? ((a.add (i * 6)).add 5) = some (.bool u.la) := fun i hi => by
      have hi' := hcell i hi
      rw [List.getElem?_eq_getElem (by omega)] at hi'
      obtain ⟨l, hl, ht⟩ := Option.bind_eq_some_iff.1 hi'
      obtain ⟨u, hu, el⟩ := open_ecells ht
      obtain ⟨v0, v1, v2, v3, v4, v5, e4, k0, k1, k2, k3, k4, k5⟩ := cells6 hl
      rw [el] at e4
      unfold cellsE at e4
      simp at e4
      obtain ⟨rfl, rfl, rfl, rfl, rfl, rfl⟩ := e4
      exact ⟨u, hu, k0, k1, k2, k3, k4, k5⟩
    obtain ⟨L, hL⟩ : ∃ L : List En, L = (List.range n0).map (fun i => if h : i < n0 then Classical.choose (hx i h) else default) := ⟨_, rfl⟩
    have hlen : L.length = n0 := by rw [hL]; simp
    have hat : ∀ i (hi : i < n0), L[i]! = Classical.choose (hx i hi) := fun i hi => by
      rw [getElem!_pos L i (by omega)]
      simp only [hL, List.getElem_map, List.getElem_range]
      rw [dif_pos hi]
    refine ⟨some a, c0, L, by rw [hlen], fun hp => ?_, (fun e => by cases e), by omega, by omega, fun i hi => ?_⟩
    · obtain ⟨b, o, spot⟩ := a
      have hspot : spot = none := by
        have := (Classical.choose_spec (hx 0 (by omega))).2.1
        simpa [Addr.add] using World.cell?_spot this
      subst hspot
      refine ⟨b, o, rfl, fun i hi => ?_⟩
      have hs := (Classical.choose_spec (hx i (by omega))).2
      rw [hat i (by omega)]
      exact ⟨(congrArg W.cell? (by rw [add_plain, add_plain, Nat.add_zero])).trans hs.1, (congrArg W.cell? (by rw [add_plain, add_plain])).trans hs.2.1, (congrArg W.cell? (by rw [add_plain, add_plain])).trans hs.2.2.1, (congrArg W.cell? (by rw [add_plain, add_plain])).trans hs.2.2.2.1, (congrArg W.cell? (by rw [add_plain, add_plain])).trans hs.2.2.2.2.1, (congrArg W.cell? (by rw [add_plain, add_plain])).trans hs.2.2.2.2.2⟩
    · rw [hat i (by omega)]; exact (Classical.choose_spec (hx i (by omega))).1
set_option maxRecDepth 100000 in
theorem open_ask {H : Type} {enc : TypeId × Value → H} {W : World} {r : Reach} {b0 base : Nat} {sp : Nat → Bool} {held : Bool} {v : Value} {d : DataW H} {p : List MemPlace} (hv : Value.okWide Try.prog W r b0 24 v) (h : DataW.Trod enc Try.prog W base sp held 24 v d p) :
    ∃ q : Aq, (q.pr.size ≤ maxLen ∧ q.fr.size ≤ maxLen) ∧ v = av q := by
  simp only [Value.okWide, Try.underlying24] at hv
  obtain ⟨cs, rfl, hsz, _⟩ := hv
  rw [cellsQt] at hsz
  obtain ⟨l⟩ := cs
  match l, hsz with
  | [e0, e1, e2, e3], _ =>
    obtain ⟨fuel, hf⟩ := h
    obtain ⟨xs, n, _, _, hl, hlen, hel⟩ := DataW.trod_struct Try.underlying24 hf
    match xs, hlen with
    | [x0, x1, x2, x3], _ =>
      have t0 := hel 0 _ rfl
      have t1 := hel 1 _ rfl
      have t2 := hel 2 _ rfl
      have t3 := hel 3 _ rfl
      simp [Value.cells, cells_i, cells_s] at t0 t1 t2 t3
      obtain ⟨a0, ea0, _, wa0⟩ := DataW.trod_string Try.underlying9 t0
      obtain ⟨a1, ea1, _, wa1⟩ := DataW.trod_string Try.underlying9 t1
      obtain ⟨a2, ea2, _, wa2⟩ := DataW.trod_int Try.underlying3 t2
      obtain ⟨a3, ea3, _, wa3⟩ := DataW.trod_int Try.underlying3 t3
      simp at ea0 ea1 ea2 ea3
      subst ea0 ea1 ea2 ea3
      exact ⟨⟨a0, a1, a2, a3⟩, ⟨wa0, wa1⟩, rfl⟩
theorem open_str {H : Type} {enc : TypeId × Value → H} {W : World} {r : Reach} {b0 base : Nat} {sp : Nat → Bool} {held : Bool} {v : Value} {d : DataW H} {p : List MemPlace} (hv : Value.okWide Try.prog W r b0 9 v) (h : DataW.Trod enc Try.prog W base sp held 9 v d p) :
    ∃ s : ByteArray, s.size ≤ maxLen ∧ v = .string s := by
  obtain ⟨s, e, _, _, hs⟩ := ChangeMaps.open_string Try.underlying9 hv h
  exact ⟨s, hs, e⟩
theorem open_byte {H : Type} {enc : TypeId × Value → H} {W : World} {base base' : Nat} {sp : Nat → Bool} {held : Bool} {v : Value} {d : DataW H} {p : List MemPlace} (hv : Value.okWide Try.prog W .any base' 5 v) (h : DataW.Trod enc Try.prog W base sp held 5 v d p) :
    ∃ x : Nat, x < 256 ∧ v = .int .u8 (x : Int) := by
  obtain ⟨a, rfl, _, _, wa⟩ := open_int Try.underlying5 hv h
  have ba : 0 ≤ a ∧ a ≤ 255 := by simpa [Lit.wf, IntKind.min, IntKind.max, IntKind.signed, IntKind.bits] using wa
  exact ⟨a.toNat, by omega, by rw [Int.toNat_of_nonneg ba.1]⟩
end Go.Proofs.Ytahnkkifegdjeaa
