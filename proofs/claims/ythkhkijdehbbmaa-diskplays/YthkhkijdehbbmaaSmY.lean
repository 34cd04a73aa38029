/-
  Deeds as they come in; whether they are few and small.
-/
import Derived.Test.YthkhkijdehbbmaaSmX
import Derived.ChangeSame
import Derived.ChangeMaps5
set_option maxRecDepth 100000
namespace Go.Proofs.Ythkhkijdehbbmaa
open Go.RowKit Go.ChangeShapes Go.WideShapes
open _root_.Go.Proofs.Ythkhkijdehbbmaa.Nm _root_.Go.Proofs.Ythkhkijdehbbmaa.Dk
attribute [local go_sem ↓] Go.wp_at_zero Go.wp_at_succ
set_option linter.unusedVariables false

/-- A deed; x: what its row of bytes holds. -/
structure Dd where
  d : Int
  n : Int
  a : ByteArray
  b : ByteArray
  v : Option Addr × Nat × Nat
  x : ByteArray
  deriving Inhabited
/-- Its cells. -/
structure DAt (w : World) (b o : Nat) (e : Dd) : Prop where
  c0 : w.cell? ⟨b, o, none⟩ = some (.int .i64 e.d)
  c1 : w.cell? ⟨b, o + 1, none⟩ = some (.int .i64 e.n)
  c2 : w.cell? ⟨b, o + 2, none⟩ = some (.string e.a)
  c3 : w.cell? ⟨b, o + 3, none⟩ = some (.string e.b)
  c4 : w.cell? ⟨b, o + 4, none⟩ = some (.slice e.v.1 e.v.2.1 e.v.2.2)
  i : Inp w e.v.1 e.v.2.1 e.v.2.2 e.x
theorem DAt.keep {w w' : World} {b o : Nat} {e : Dd} (h : DAt w b o e) (hb : Below w.heap.size w w') : DAt w' b o e :=
  ⟨(hb.cell (p := ⟨b, o, none⟩) (block_lt_of_cell h.c0)).trans h.c0, (hb.cell (p := ⟨b, o + 1, none⟩) (block_lt_of_cell h.c1)).trans h.c1, (hb.cell (p := ⟨b, o + 2, none⟩) (block_lt_of_cell h.c2)).trans h.c2, (hb.cell (p := ⟨b, o + 3, none⟩) (block_lt_of_cell h.c3)).trans h.c3, (hb.cell (p := ⟨b, o + 4, none⟩) (block_lt_of_cell h.c4)).trans h.c4, h.i.keep hb⟩
/-- A slice that begins at a holds in w the row L. -/
def Ds (w : World) (a : Option Addr) (L : List Dd) : Prop := 0 < L.length → ∃ b o, a = some ⟨b, o, none⟩ ∧ ∀ i, i < L.length → DAt w b (o + i * 5) L[i]!
theorem Ds.keep {w w' : World} {a : Option Addr} {L : List Dd} (h : Ds w a L) (hb : Below w.heap.size w w') : Ds w' a L := fun hn => by
  obtain ⟨b, o, e, hc⟩ := h hn
  exact ⟨b, o, e, fun i hi => (hc i hi).keep hb⟩
/-- What a deed's numbers are. -/
structure Dok (e : Dd) : Prop where
  d0 : -9223372036854775808 ≤ e.d
  d1 : e.d ≤ 9223372036854775807
  n0 : -9223372036854775808 ≤ e.n
  n1 : e.n ≤ 9223372036854775807
  a : e.a.size ≤ maxLen
  b : e.b.size ≤ maxLen
  v : e.v.2.1 ≤ maxLen
theorem cellsDt : Try.prog.cellsOf 54 = 5 := by kernel_rfl
theorem cells_i : Try.prog.cellsOf 3 = 1 := by kernel_rfl
theorem cells_s : Try.prog.cellsOf 9 = 1 := by kernel_rfl
theorem cells_y : Try.prog.cellsOf 29 = 1 := by kernel_rfl
theorem bounds_i64 {n : Int} (h : (Lit.int .i64 n).wf = true) : -9223372036854775808 ≤ n ∧ n ≤ 9223372036854775807 := by
  simpa [Lit.wf, IntKind.min, IntKind.max, IntKind.signed, IntKind.bits] using h
/-- Five cells that are read as a deed. -/
theorem open_dcells {H : Type} {enc : TypeId × Value → H} {W : World} {base fuel : Nat} {held : Bool} {l : List Value} {x : DataW H × List MemPlace} (h : DataW.trod enc Try.prog W base (fun _ => true) held fuel 54 l = some x) :
    ∃ e : Dd, Dok e ∧ Inp W e.v.1 e.v.2.1 e.v.2.2 e.x ∧ l = [.int .i64 e.d, .int .i64 e.n, .string e.a, .string e.b, .slice e.v.1 e.v.2.1 e.v.2.2] := by
  obtain ⟨xs, n, _, _, hl, hlen, hel⟩ := DataW.trod_struct Try.underlying54 h
  rw [cellsDt] at hl
  match l, hl with
  | [e0, e1, e2, e3, e4], _ =>
    match xs, hlen with
    | [x0, x1, x2, x3, x4], _ =>
      have t0 := hel 0 _ rfl
      have t1 := hel 1 _ rfl
      have t2 := hel 2 _ rfl
      have t3 := hel 3 _ rfl
      have t4 := hel 4 _ rfl
      simp [cells_i, cells_s, cells_y] at t0 t1 t2 t3 t4
      obtain ⟨a0, ea0, _, wa0⟩ := DataW.trod_int Try.underlying3 t0
      obtain ⟨a1, ea1, _, wa1⟩ := DataW.trod_int Try.underlying3 t1
      obtain ⟨a2, ea2, _, wa2⟩ := DataW.trod_string Try.underlying9 t2
      obtain ⟨a3, ea3, _, wa3⟩ := DataW.trod_string Try.underlying9 t3
      obtain ⟨ba, bn, bc, e4e⟩ : ∃ ba bn bc, e4 = .slice ba bn bc := by
        rcases DataW.trod_slice Try.underlying29 t4 with ⟨e, _⟩ | ⟨a, len, cap, _, _, _, _, e, _⟩
        · exact ⟨_, _, _, by simpa using e⟩
        · exact ⟨_, _, _, by simpa using e⟩
      subst e4e
      obtain ⟨f, hr, hz, hm, hc⟩ := open_row (cap := bc) ⟨_, t4⟩
      simp at ea0 ea1 ea2 ea3
      subst ea0 ea1 ea2 ea3
      obtain ⟨b0, b1⟩ := bounds_i64 wa0
      obtain ⟨b2, b3⟩ := bounds_i64 wa1
      have hsz : (str f bn).size = bn := by
        have := congrArg List.length (str_tx f bn)
        rw [tx_length] at this
        simpa using this
      exact ⟨⟨a0, a1, a2, a3, (ba, bn, bc), str f bn⟩, ⟨b0, b1, b2, b3, wa2, wa3, hm⟩, ⟨⟨f, hr.lt, hr, rfl⟩, hsz.symm, hz⟩, rfl⟩
theorem cells5' {W : World} {a : Addr} {l : List Value} (h : W.cells? 0 a 5 = some l) : ∃ v0 v1 v2 v3 v4, l = [v0, v1, v2, v3, v4] ∧ W.cell? (a.add 0) = some v0 ∧ W.cell? (a.add 1) = some v1 ∧ W.cell? (a.add 2) = some v2 ∧ W.cell? (a.add 3) = some v3 ∧ W.cell? (a.add 4) = some v4 := by
  unfold World.cells? at h
  rw [if_pos (Nat.zero_le _)] at h
  have e : List.range 5 = [0, 1, 2, 3, 4] := rfl
  rw [e] at h
  simp only [List.mapM_cons, List.mapM_nil] at h
  cases h0 : W.cell? (a.add 0) with
  | none => simp [h0] at h
  | some v0 =>
    cases h1 : W.cell? (a.add 1) with
    | none => simp [h0, h1] at h
    | some v1 =>
      cases h2 : W.cell? (a.add 2) with
      | none => simp [h0, h1, h2] at h
      | some v2 =>
        cases h3 : W.cell? (a.add 3) with
        | none => simp [h0, h1, h2, h3] at h
        | some v3 =>
          cases h4 : W.cell? (a.add 4) with
          | none => simp [h0, h1, h2, h3, h4] at h
          | some v4 =>
            simp [h0, h1, h2, h3, h4] at h
            exact ⟨v0, v1, v2, v3, v4, h.symm, rfl, rfl, rfl, rfl, rfl⟩
theorem open_deeds {H : Type} {enc : TypeId × Value → H} {W : World} {r : Reach} {b0 : Nat} {held : Bool} {v : Value} {d : DataW H} {p : List MemPlace} (hv : Value.okWide Try.prog W r b0 45 v) (h : DataW.Trod enc Try.prog W 0 (fun _ => true) held 45 v d p) :
    ∃ a c L, v = .slice a L.length c ∧ Ds W a L ∧ (a = none → L.length = 0 ∧ c = 0) ∧ L.length ≤ maxLen ∧ ∀ i, i < L.length → Dok L[i]! := by
  obtain ⟨a0, n0, c0, rfl⟩ := okWide_slice Try.underlying45 hv
  obtain ⟨fuel, hf⟩ := h
  rcases DataW.trod_slice Try.underlying45 hf with ⟨e, _⟩ | ⟨a, len, cap, elems, rest, n, _, e, _, _, hlc, hcm, hel, hcell, _⟩
  · simp [Value.cells] at e
    obtain ⟨rfl, rfl, rfl⟩ := e
    exact ⟨none, 0, [], rfl, fun k => absurd k (Nat.lt_irrefl _), fun _ => ⟨rfl, rfl⟩, by unfold maxLen; exact Nat.zero_le _, fun i hi => absurd hi (Nat.not_lt_zero _)⟩
  · simp [Value.cells] at e
    obtain ⟨rfl, rfl, rfl⟩ := e
    rw [cellsDt] at hcell
    have hx : ∀ i, i < n0 → ∃ u : Dd, Dok u ∧ Inp W u.v.1 u.v.2.1 u.v.2.2 u.x ∧ W.cell? ((a.add (i * 5)).add 0) = some (.int .i64 u.d) ∧ W.cell? ((a.add (i * 5)).add 1) = some (.int .i64 u.n) ∧ W.cell? ((a.add (i * 5)).add 2) = some (.string u.a) ∧ W.cell? ((a.add (i * 5)).add 3) = some (.string u.b) ∧ W.cell? ((a.add (i * 5)).add 4) = some (.slice u.v.1 u.v.2.1 u.v.2.2) := fun i hi => by
      have hi' := hcell i hi
      rw [List.getElem?_eq_getElem (by omega)] at hi'
      obtain ⟨l, hl, ht⟩ := Option.bind_eq_some_iff.1 hi'
      obtain ⟨u, hu, hu2, el⟩ := open_dcells ht
      obtain ⟨v0, v1, v2, v3, v4, e4, k0, k1, k2, k3, k4⟩ := cells5' hl
      rw [el] at e4
      simp at e4
      obtain ⟨rfl, rfl, rfl, rfl, rfl⟩ := e4
      exact ⟨u, hu, hu2, k0, k1, k2, k3, k4⟩
    obtain ⟨L, hL⟩ : ∃ L : List Dd, L = (List.range n0).map (fun i => if h : i < n0 then Classical.choose (hx i h) else default) := ⟨_, rfl⟩
    have hlen : L.length = n0 := by rw [hL]; simp
    have hat : ∀ i (hi : i < n0), L[i]! = Classical.choose (hx i hi) := fun i hi => by
      rw [getElem!_pos L i (by omega)]
      simp only [hL, List.getElem_map, List.getElem_range]
      rw [dif_pos hi]
    refine ⟨some a, c0, L, by rw [hlen], fun hp => ?_, (fun e => by cases e), by omega, fun i hi => ?_⟩
    · obtain ⟨b, o, spot⟩ := a
      have hspot : spot = none := by
        have := (Classical.choose_spec (hx 0 (by omega))).2.2.1
        simpa [Addr.add] using World.cell?_spot this
      subst hspot
      refine ⟨b, o, rfl, fun i hi => ?_⟩
      have hs := (Classical.choose_spec (hx i (by omega))).2
      rw [hat i (by omega)]
      exact ⟨(congrArg W.cell? (by rw [add_plain, add_plain, Nat.add_zero])).trans hs.2.1, (congrArg W.cell? (by rw [add_plain, add_plain])).trans hs.2.2.1, (congrArg W.cell? (by rw [add_plain, add_plain])).trans hs.2.2.2.1, (congrArg W.cell? (by rw [add_plain, add_plain])).trans hs.2.2.2.2.1, (congrArg W.cell? (by rw [add_plain, add_plain])).trans hs.2.2.2.2.2, hs.1⟩
    · rw [hat i (by omega)]; exact (Classical.choose_spec (hx i (by omega))).1
/-- A deed is small. -/
def smallD (e : Dd) : Bool := decide (e.a.size ≤ 1000) && decide (e.b.size ≤ 1000) && decide (e.v.2.1 ≤ 5000)
def roomB (L : List Dd) (m : Nat) : Bool := decide (L.length ≤ m) && L.all smallD
theorem roomB_out {L : List Dd} {m : Nat} (h : roomB L m = true) : L.length ≤ m ∧ ∀ i, i < L.length → L[i]!.a.size ≤ 1000 ∧ L[i]!.b.size ≤ 1000 ∧ L[i]!.v.2.1 ≤ 5000 := by
  unfold roomB at h
  rw [Bool.and_eq_true] at h
  refine ⟨of_decide_eq_true h.1, fun i hi => ?_⟩
  have := List.all_eq_true.1 h.2 L[i]! (by rw [getElem!_pos L i hi]; exact List.getElem_mem hi)
  unfold smallD at this
  simp only [Bool.and_eq_true, decide_eq_true_eq] at this
  exact ⟨this.1.1, this.1.2, this.2⟩
theorem roomB_no {L : List Dd} {m i : Nat} (hi : i < L.length) (h : smallD L[i]! = false) : roomB L m = false := by
  unfold roomB
  have : L.all smallD = false := by
    rw [List.all_eq_false]
    exact ⟨L[i]!, by rw [getElem!_pos L i hi]; exact List.getElem_mem hi, by rw [h]; decide⟩
  rw [this, Bool.and_false]
theorem roomB_yes {L : List Dd} {m : Nat} (hm : L.length ≤ m) (h : ∀ i, i < L.length → smallD L[i]! = true) : roomB L m = true := by
  unfold roomB
  rw [decide_eq_true hm, Bool.true_and, List.all_eq_true]
  intro x hx
  obtain ⟨i, hi, e⟩ := List.getElem_of_mem hx
  have := h i hi
  rw [getElem!_pos L i hi, e] at this
  exact this
set_option maxHeartbeats 4000000 in
theorem room_any (a : Option Addr) (c : Nat) (L : List Dd) (m : Nat) (w : World) (h : Ds w a L) (hl : L.length ≤ maxLen) :
    Calls Try.prog 24 #[.slice a L.length c, .int .i64 (m : Int)] w fun e w' => e = .returned (.bool (roomB L m)) ∧ w' = w := by
  unfold maxLen at hl
  have HT : Hid (∀ b, roomB L m = b → (Ending.returned (.bool b) = Ending.returned (.bool (roomB L m)) ∧ True)) := fun b e => ⟨by rw [e], trivial⟩
  obtain ⟨R, hR⟩ : ∃ R, roomB L m = R := ⟨_, rfl⟩
  have HR : Hid (roomB L m = R) := hR
  rw [hR]
  clear HT hR
  by_cases h1 : m < L.length
  · have i1 : (m : Int) < (L.length : Int) := by omega
    have HE : Hid (R = false) := by
      unfold Hid
      rw [← HR.out]
      unfold roomB
      rw [decide_eq_false (by omega), Bool.false_and]
    go_enter Try.func24, Try.ntmps24
    go_wp2
    go_ret
    exact ⟨by rw [HE.out] <;> rfl, rfl⟩
  · have i1 : decide ((m : Int) < (L.length : Int)) = false := decide_eq_false (by omega)
    have HM : Hid (L.length ≤ m) := by unfold Hid; omega
    have HD : Hid (Ds w a L) := h
    clear h
    go_enter Try.func24, Try.ntmps24
    go_wp2_with fail
    go_loopw [5] (fun i wr => ∃ j : Nat, j ≤ L.length ∧ i = .int .i64 j ∧ (∀ k, k < j → smallD L[k]! = true) ∧ w = wr) (fun i _ => L.length - (intOf i).toNat)
    case atStart => exact ⟨0, by omega, rfl, fun k hk => absurd hk (by omega), rfl⟩
    case round =>
      obtain ⟨j, hj, rfl, hk, rfl⟩ := hrel
      have HK : Hid (∀ k, k < j → smallD L[k]! = true) := hk
      clear hk i1 h1
      by_cases hlt : j < L.length
      · have ij : (j : Int) < (L.length : Int) := by omega
        obtain ⟨bb, oo, rfl, hA⟩ := HD.out (by omega)
        have t2 := (hA j hlt).c2
        have t3 := (hA j hlt).c3
        have t4 := (hA j hlt).c4
        have HNO : Hid (smallD L[j]! = false → R = false) := fun e => by rw [← HR.out]; exact roomB_no hlt e
        obtain ⟨e, he⟩ : ∃ e, L[j]! = e := ⟨_, rfl⟩
        rw [he] at t2 t3 t4 HNO
        have HEE : Hid (L[j]! = e) := he
        obtain ⟨ed, en, ea, eb, ⟨va, vn, vc⟩, ex⟩ := e
        dsimp only at t2 t3 t4
        have HS : Hid (smallD ⟨ed, en, ea, eb, (va, vn, vc), ex⟩ = (decide (ea.size ≤ 1000) && decide (eb.size ≤ 1000) && decide (vn ≤ 5000))) := rfl
        clear hA he
        by_cases q1 : 1000 < ea.size
        · have g1 : (1000 : Int) < (ea.size : Int) := by omega
          have HE : Hid (R = false) := HNO.out (by rw [HS.out, decide_eq_false (by omega)]; rfl)
          go_wp2
          go_ret
          exact ⟨by rw [HE.out] <;> rfl, by trivial⟩
        · have g1 : decide ((1000 : Int) < (ea.size : Int)) = false := decide_eq_false (by omega)
          by_cases q2 : 1000 < eb.size
          · have g2 : (1000 : Int) < (eb.size : Int) := by omega
            have HE : Hid (R = false) := HNO.out (by rw [HS.out, decide_eq_false (show ¬ eb.size ≤ 1000 by omega), Bool.and_false]; rfl)
            go_wp2
            go_ret
            exact ⟨by rw [HE.out] <;> rfl, by trivial⟩
          · have g2 : decide ((1000 : Int) < (eb.size : Int)) = false := decide_eq_false (by omega)
            by_cases q3 : 5000 < vn
            · have g3 : (5000 : Int) < (vn : Int) := by omega
              have HE : Hid (R = false) := HNO.out (by rw [HS.out, decide_eq_false (show ¬ vn ≤ 5000 by omega), Bool.and_false])
              go_wp2
              go_ret
              exact ⟨by rw [HE.out] <;> rfl, by trivial⟩
            · have g3 : decide ((5000 : Int) < (vn : Int)) = false := decide_eq_false (by omega)
              have HY : Hid (smallD ⟨ed, en, ea, eb, (va, vn, vc), ex⟩ = true) := by
                unfold Hid
                rw [HS.out, decide_eq_true (show ea.size ≤ 1000 by omega), decide_eq_true (show eb.size ≤ 1000 by omega), decide_eq_true (show vn ≤ 5000 by omega)]; rfl
              clear q1 q2 q3
              go_wp2
              go_round
              case rel => exact ⟨j + 1, by omega, by go_num, fun k hk => (by
                by_cases e : k < j
                · exact HK.out k e
                · have : k = j := by omega
                  subst this
                  rw [HEE.out]; exact HY.out), by trivial⟩
              case measure => simp [intOf]; omega
      · have hjn : j = L.length := by omega
        subst hjn
        have ij : decide ((L.length : Int) < (L.length : Int)) = false := by simp
        have HE : Hid (R = true) := by unfold Hid; rw [← HR.out]; exact roomB_yes HM.out HK.out
        clear hlt
        go_wp2
        go_ret
        exact ⟨by rw [HE.out] <;> rfl, by trivial⟩
end Go.Proofs.Ythkhkijdehbbmaa
