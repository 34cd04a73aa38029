/-
  A journal, a version, as they come in.
-/
import Derived.Test.YtfgngecenbopnaaDoorJnO
import Derived.ChangeSame
import Derived.ChangeMaps5
namespace Go.Proofs.YtfgngecenbopnaaDoor
open Go.RowKit Go.ChangeShapes Go.WideShapes Crc

theorem cellsJ : Tryd.prog.cellsOf 41 = 3 := by kernel_rfl
theorem cellsVt : Tryd.prog.cellsOf 33 = 4 := by kernel_rfl
theorem cells_i : Tryd.prog.cellsOf 3 = 1 := by kernel_rfl
theorem cells_b : Tryd.prog.cellsOf 4 = 1 := by kernel_rfl
theorem cells_u : Tryd.prog.cellsOf 31 = 1 := by kernel_rfl
theorem cells_s : Tryd.prog.cellsOf 9 = 1 := by kernel_rfl
theorem cells_vs : Tryd.prog.cellsOf 24 = 1 := by kernel_rfl
theorem bounds_u32 {n : Int} (h : (Lit.int .u32 n).wf = true) : 0 ≤ n ∧ n ≤ 4294967295 := by
  simpa [Lit.wf, IntKind.min, IntKind.max, IntKind.signed, IntKind.bits] using h
theorem bounds_i64 {n : Int} (h : (Lit.int .i64 n).wf = true) : -9223372036854775808 ≤ n ∧ n ≤ 9223372036854775807 := by
  simpa [Lit.wf, IntKind.min, IntKind.max, IntKind.signed, IntKind.bits] using h
set_option maxRecDepth 100000 in
/-- Four cells that are read as a version. -/
theorem open_cells {H : Type} {enc : TypeId × Value → H} {W : World} {base fuel : Nat} {sp : Nat → Bool} {held : Bool} {l : List Value} {x : DataW H × List MemPlace} (h : DataW.trod enc Tryd.prog W base sp held fuel 33 l = some x) :
    ∃ v : Ver, v.fits ∧ l = cellsV v := by
  obtain ⟨xs, n, _, _, hl, hlen, hel⟩ := DataW.trod_struct Tryd.underlying33 h
  rw [cellsVt] at hl
  match l, hl with
  | [e0, e1, e2, e3], _ =>
    match xs, hlen with
    | [x0, x1, x2, x3], _ =>
      have t0 := hel 0 _ rfl
      have t1 := hel 1 _ rfl
      have t2 := hel 2 _ rfl
      have t3 := hel 3 _ rfl
      simp [cells_i, cells_b, cells_u] at t0 t1 t2 t3
      obtain ⟨a0, ea0, _, wa0⟩ := DataW.trod_int Tryd.underlying3 t0
      obtain ⟨a1, ea1, _⟩ := DataW.trod_bool Tryd.underlying4 t1
      obtain ⟨a2, ea2, _, wa2⟩ := DataW.trod_int Tryd.underlying3 t2
      obtain ⟨a3, ea3, _, wa3⟩ := DataW.trod_int Tryd.underlying31 t3
      simp at ea0 ea1 ea2 ea3
      subst ea0 ea1 ea2 ea3
      have b3 := bounds_u32 wa3
      refine ⟨⟨a0, a1, a2, a3.toNat⟩, ⟨(bounds_i64 wa0).1, (bounds_i64 wa0).2, (bounds_i64 wa2).1, (bounds_i64 wa2).2, by show a3.toNat < _; omega⟩, ?_⟩
      unfold cellsV
      dsimp only
      rw [Int.toNat_of_nonneg b3.1]
theorem cells4 {W : World} {a : Addr} {l : List Value} (h : W.cells? 0 a 4 = some l) : ∃ v0 v1 v2 v3, l = [v0, v1, v2, v3] ∧ W.cell? (a.add 0) = some v0 ∧ W.cell? (a.add 1) = some v1 ∧ W.cell? (a.add 2) = some v2 ∧ W.cell? (a.add 3) = some v3 := by
  unfold World.cells? at h
  rw [if_pos (Nat.zero_le _)] at h
  have e : List.range 4 = [0, 1, 2, 3] := rfl
  rw [e] at h
  simp only [List.mapM_cons, List.mapM_nil] at h
  cases h0 : W.cell? (a.add 0) with
  | none => simp [h0] at h
  | some v0 =>
    cases h1 : W.cell? (a.add 1) with
    | none => simp [h0, h1] at h
    | some v1 =>
      cases h2 : W.cell? (a.add 2) with
      | none => simp [h0, h1, h2] at h
      | some v2 =>
        cases h3 : W.cell? (a.add 3) with
        | none => simp [h0, h1, h2, h3] at h
        | some v3 =>
          simp [h0, h1, h2, h3] at h
          exact ⟨v0, v1, v2, v3, h.symm, rfl, rfl, rfl, rfl⟩
set_option maxRecDepth 100000 in
theorem open_vers {H : Type} {enc : TypeId × Value → H} {W : World} {fuel : Nat} {sp : Nat → Bool} {held : Bool} {v : Value} {x : DataW H × List MemPlace} (h : DataW.trod enc Tryd.prog W 0 sp held fuel 24 [v] = some x) :
    ∃ a n c F, v = .slice a n c ∧ Vs W a n F ∧ (a = none → n = 0 ∧ c = 0) ∧ n ≤ maxLen ∧ n ≤ c := by
  rcases DataW.trod_slice Tryd.underlying24 h with ⟨e, _⟩ | ⟨a, len, cap, elems, rest, n, _, e, _, _, hlc, hcm, hel, hcell, _⟩
  · simp at e
    subst e
    exact ⟨none, 0, 0, fun _ => zeroV, rfl, ⟨fun _ => zeroV_fits, fun q => absurd q (by omega)⟩, fun _ => ⟨rfl, rfl⟩, by unfold maxLen; omega, by omega⟩
  · simp at e
    subst e
    rw [cellsVt] at hcell
    have hv : ∀ i, i < len → ∃ u : Ver, u.fits ∧ W.cell? (a.add (i * 4)) = some (.int .i64 u.id) ∧ W.cell? ((a.add (i * 4)).add 1) = some (.bool u.mr) ∧ W.cell? ((a.add (i * 4)).add 2) = some (.int .i64 u.sz) ∧ W.cell? ((a.add (i * 4)).add 3) = some (.int .u32 (u.sm : Int)) := fun i hi => by
      have hi' := hcell i hi
      rw [List.getElem?_eq_getElem (by omega)] at hi'
      obtain ⟨l, hl, ht⟩ := Option.bind_eq_some_iff.1 hi'
      obtain ⟨u, hu, el⟩ := open_cells ht
      obtain ⟨v0, v1, v2, v3, e4, c0, c1, c2, c3⟩ := cells4 hl
      rw [el] at e4
      unfold cellsV at e4
      simp at e4
      obtain ⟨rfl, rfl, rfl, rfl⟩ := e4
      refine ⟨u, hu, ?_, c1, c2, c3⟩
      have : (a.add (i * 4)).add 0 = a.add (i * 4) := by unfold Addr.add; split <;> simp_all
      rw [← this]; exact c0
    refine ⟨some a, len, cap, fun i => if h : i < len then Classical.choose (hv i h) else zeroV, rfl, ⟨fun i => ?_, fun hp => ?_⟩, (fun e => by cases e), by omega, hlc⟩
    · split
      · rename_i hi; exact (Classical.choose_spec (hv i hi)).1
      · exact zeroV_fits
    · obtain ⟨b, o, spot⟩ := a
      have hspot : spot = none := by
        have := (Classical.choose_spec (hv 0 hp)).2.1
        simpa [Addr.add] using World.cell?_spot this
      subst hspot
      refine ⟨b, o, rfl, fun i hi => ?_⟩
      have hs := (Classical.choose_spec (hv i hi)).2
      rw [dif_pos hi]
      exact ⟨(congrArg W.cell? (add_plain b o (i * 4)).symm).trans hs.1, (congrArg W.cell? (by rw [add_plain, add_plain])).trans hs.2.1, (congrArg W.cell? (by rw [add_plain, add_plain])).trans hs.2.2.1, (congrArg W.cell? (by rw [add_plain, add_plain])).trans hs.2.2.2⟩
set_option maxRecDepth 100000 in
theorem open_jn {H : Type} {enc : TypeId × Value → H} {W : World} {r : Reach} {b0 : Nat} {sp : Nat → Bool} {held : Bool} {v : Value} {d : DataW H} {p : List MemPlace} (hv : Value.okWide Tryd.prog W r b0 41 v) (h : DataW.Trod enc Tryd.prog W 0 sp held 41 v d p) :
    ∃ t s a n c F, v = .agg #[.int .i64 t, .string s, .slice a n c] ∧ (-9223372036854775808 ≤ t ∧ t ≤ 9223372036854775807) ∧ s.size ≤ maxLen ∧ Vs W a n F ∧ (a = none → n = 0 ∧ c = 0) ∧ n ≤ maxLen ∧ n ≤ c := by
  simp only [Value.okWide, Tryd.underlying41] at hv
  obtain ⟨cs, rfl, hsz, _⟩ := hv
  rw [cellsJ] at hsz
  obtain ⟨l⟩ := cs
  match l, hsz with
  | [e0, e1, e2], _ =>
    obtain ⟨fuel, hf⟩ := h
    obtain ⟨xs, n, _, _, hl, hlen, hel⟩ := DataW.trod_struct Tryd.underlying41 hf
    match xs, hlen with
    | [x0, x1, x2], _ =>
      have t0 := hel 0 _ rfl
      have t1 := hel 1 _ rfl
      have t2 := hel 2 _ rfl
      simp [Value.cells, cells_i, cells_s, cells_vs] at t0 t1 t2
      obtain ⟨a0, ea0, _, wa0⟩ := DataW.trod_int Tryd.underlying3 t0
      obtain ⟨a1, ea1, _, wa1⟩ := DataW.trod_string Tryd.underlying9 t1
      simp at ea0 ea1
      subst ea0 ea1
      obtain ⟨a, n', c, F, rfl, hvs, hz, hn, hc⟩ := open_vers t2
      exact ⟨a0, a1, a, n', c, F, rfl, bounds_i64 wa0, wa1, hvs, hz, hn, hc⟩
set_option maxRecDepth 100000 in
theorem open_ver {H : Type} {enc : TypeId × Value → H} {W : World} {r : Reach} {b0 base : Nat} {sp : Nat → Bool} {held : Bool} {v : Value} {d : DataW H} {p : List MemPlace} (hv : Value.okWide Tryd.prog W r b0 33 v) (h : DataW.Trod enc Tryd.prog W base sp held 33 v d p) :
    ∃ u : Ver, u.fits ∧ v = .agg #[.int .i64 u.id, .bool u.mr, .int .i64 u.sz, .int .u32 (u.sm : Int)] := by
  simp only [Value.okWide, Tryd.underlying33] at hv
  obtain ⟨cs, rfl, hsz, _⟩ := hv
  obtain ⟨fuel, hf⟩ := h
  obtain ⟨u, hu, e⟩ := open_cells hf
  refine ⟨u, hu, ?_⟩
  have : cs.toList = cellsV u := by simpa [Value.cells] using e
  obtain ⟨l⟩ := cs
  simp at this
  subst this
  rfl
end Go.Proofs.YtfgngecenbopnaaDoor
