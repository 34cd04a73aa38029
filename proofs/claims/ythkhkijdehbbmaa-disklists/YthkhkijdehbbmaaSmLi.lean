/-
  Names and their data in any order, and a disk's files.
-/
import Derived.Test.YthkhkijdehbbmaaSmRw
set_option maxRecDepth 100000
namespace Go.Proofs.Ythkhkijdehbbmaa
open Go.RowKit
open _root_.Go.Proofs.Ythkhkijdehbbmaa.Nm _root_.Go.Proofs.Ythkhkijdehbbmaa.Dk
attribute [local go_sem ↓] Go.wp_at_zero Go.wp_at_succ
set_option linter.unusedVariables false

def kb (f : Fl) : ByteArray × ByteArray := (f.path, f.b)
def prs (Ns : List Sv) (Ys : List Yv) : List (ByteArray × ByteArray) := List.zipWith (fun n y => (n.s, y.b)) Ns Ys
/-- The names and the data are the files. -/
structure Ld (Ns : List Sv) (Ys : List Yv) (l : List Fl) : Prop where
  len : Ys.length = Ns.length
  perm : (prs Ns Ys).Perm (l.map kb)
  ok : ∀ n ∈ Ns, okPath n.s = true
theorem Ld.nil : Ld [] [] [] := ⟨rfl, List.Perm.refl _, fun n h => by cases h⟩
theorem prs_at {Ns : List Sv} {Ys : List Yv} (h : Ys.length = Ns.length) (i : Nat) (hi : i < Ns.length) : (prs Ns Ys)[i]? = some (Ns[i]!.s, Ys[i]!.b) := by
  unfold prs
  rw [List.getElem?_zipWith, List.getElem?_eq_getElem hi, List.getElem?_eq_getElem (by omega), getElem!_pos Ns i hi, getElem!_pos Ys i (by omega)]
theorem prs_length {Ns : List Sv} {Ys : List Yv} (h : Ys.length = Ns.length) : (prs Ns Ys).length = Ns.length := by
  unfold prs
  rw [List.length_zipWith, h, Nat.min_self]
theorem Ld.count {Ns : List Sv} {Ys : List Yv} {l : List Fl} (h : Ld Ns Ys l) : Ns.length = l.length := by
  have := h.perm.length_eq
  rw [prs_length h.len, List.length_map] at this
  exact this
theorem Ld.at {Ns : List Sv} {Ys : List Yv} {l : List Fl} (h : Ld Ns Ys l) {i : Nat} (hi : i < Ns.length) : ∃ f ∈ l, f.path = Ns[i]!.s ∧ f.b = Ys[i]!.b := by
  have h1 : (Ns[i]!.s, Ys[i]!.b) ∈ prs Ns Ys := List.mem_of_getElem? (prs_at h.len i hi)
  obtain ⟨f, hf, e⟩ := List.mem_map.1 (h.perm.mem_iff.1 h1)
  exact ⟨f, hf, congrArg Prod.fst e, congrArg Prod.snd e⟩
theorem Ld.has {Ns : List Sv} {Ys : List Yv} {l : List Fl} (h : Ld Ns Ys l) {f : Fl} (hf : f ∈ l) : ∃ i, i < Ns.length ∧ Ns[i]!.s = f.path := by
  have h1 : kb f ∈ prs Ns Ys := h.perm.mem_iff.2 (List.mem_map_of_mem hf)
  obtain ⟨i, hi, e⟩ := List.getElem_of_mem h1
  have hi' : i < Ns.length := by rw [prs_length h.len] at hi; exact hi
  refine ⟨i, hi', ?_⟩
  have := prs_at h.len i hi'
  rw [List.getElem?_eq_getElem hi, e] at this
  injection this with this
  exact (congrArg Prod.fst this).symm
/-- A name that is new. -/
theorem Ld.new {Ns : List Sv} {Ys : List Yv} {V A M B : List Fv} {x : ByteArray} (h : Ld Ns Ys (V.map fl)) (P : Part V x A M B) (hx : okPath x = true) (hn : ∀ k, k < Ns.length → Ns[k]!.s ≠ x) {fi : Fv} (hf : fi.path = x) {y : Yv} (hb : y.b = fi.b) : Ld (Ns ++ [⟨x⟩]) (Ys ++ [y]) ((A ++ fi :: B).map fl) := by
  have hM : M = [] := by
    rcases P.m with ⟨_, e⟩ | ⟨_, g, e, hg⟩
    · exact e
    · exfalso
      obtain ⟨i, hi, e2⟩ := h.has (f := fl g) (List.mem_map_of_mem (by rw [P.v, e]; simp))
      exact hn i hi (e2.trans hg)
  refine ⟨by rw [List.length_append, List.length_append, h.len]; rfl, ?_, fun n hm => ?_⟩
  · have e1 : prs (Ns ++ [⟨x⟩]) (Ys ++ [y]) = prs Ns Ys ++ [kb (fl fi)] := by
      unfold prs
      rw [List.zipWith_append h.len.symm]
      show _ ++ [(x, y.b)] = _ ++ [(fi.path, fi.b)]
      rw [hf, hb]
    have hp := h.perm
    rw [P.v, hM, List.append_nil] at hp
    rw [e1, List.map_append, List.map_cons, List.map_append, List.map_cons]
    rw [List.map_append, List.map_append] at hp
    exact List.perm_append_comm.trans ((hp.cons _).trans List.perm_middle.symm)
  · rcases List.mem_append.1 hm with k | k
    · exact h.ok n k
    · rw [List.mem_singleton] at k
      subst k; exact hx
/-- A name that is there. -/
theorem Ld.old {Ns : List Sv} {Ys : List Yv} {V A M B : List Fv} {x : ByteArray} (h : Ld Ns Ys (V.map fl)) (P : Part V x A M B) {k : Nat} (hk : k < Ns.length) (hs : Ns[k]!.s = x) {fi : Fv} (hf : fi.path = x) {y : Yv} (hb : y.b = fi.b) : Ld Ns (Ys.set k y) ((A ++ fi :: B).map fl) := by
  obtain ⟨f, hfm, e1, e2⟩ := h.at hk
  obtain ⟨v, hv, rfl⟩ := List.mem_map.1 hfm
  rw [hs] at e1
  obtain ⟨g, hM, hg⟩ : ∃ g, M = [g] ∧ g.path = x := by
    rcases P.m with ⟨_, e⟩ | ⟨_, g, e, hg⟩
    · exfalso
      rw [P.v, e, List.append_nil] at hv
      rcases List.mem_append.1 hv with q | q
      · exact P.na v q e1
      · exact P.nb v q e1
    · exact ⟨g, e, hg⟩
  have hvg : v = g := by
    rw [P.v, hM] at hv
    rcases List.mem_append.1 hv with q | q
    · rcases List.mem_append.1 q with q | q
      · exact absurd e1 (P.na v q)
      · exact List.mem_singleton.1 q
    · exact absurd e1 (P.nb v q)
  subst hvg
  have hlen := prs_length h.len
  have hat : (prs Ns Ys)[k]'(by omega) = kb (fl v) := by
    have := prs_at h.len k hk
    rw [List.getElem?_eq_getElem (by omega)] at this
    injection this with this
    rw [this, hs, ← e2, ← e1]; rfl
  have hset : prs Ns (Ys.set k y) = (prs Ns Ys).set k (kb (fl fi)) := by
    have hl2 : (Ys.set k y).length = Ns.length := by rw [List.length_set]; exact h.len
    apply List.ext_getElem?
    intro i
    by_cases hi : i < Ns.length
    · rw [prs_at hl2 i hi, List.getElem?_set]
      by_cases e : k = i
      · subst e
        rw [if_pos rfl, if_pos (by omega), hs, getElem!_pos _ k (by omega), List.getElem_set_self, hb]
        show _ = some (fi.path, fi.b)
        rw [hf]
      · have e9 : (Ys.set k y)[i]! = Ys[i]! := by
          rw [getElem!_pos (Ys.set k y) i (by omega), List.getElem_set_ne e, getElem!_pos Ys i (by rw [h.len]; exact hi)]
        rw [if_neg e, prs_at h.len i hi, e9]
    · rw [List.getElem?_eq_none (by rw [prs_length hl2]; omega), List.getElem?_eq_none (by rw [List.length_set]; omega)]
  refine ⟨by rw [List.length_set]; exact h.len, ?_, h.ok⟩
  have hp := h.perm
  have hd : prs Ns Ys = (prs Ns Ys).take k ++ kb (fl v) :: (prs Ns Ys).drop (k + 1) := by
    rw [← hat, List.getElem_cons_drop, List.take_append_drop]
  rw [P.v, hM, List.append_assoc, List.map_append, List.map_append, List.singleton_append, List.map_cons, List.map_cons] at hp
  rw [hd] at hp
  have hp2 := (List.perm_middle.symm.trans hp).trans List.perm_middle
  have hp3 := hp2.cons_inv
  rw [hset, List.set_eq_take_append_cons_drop, if_pos (by omega), List.map_append, List.map_append, List.map_cons, List.map_cons]
  exact List.perm_middle.trans ((hp3.cons _).trans List.perm_middle.symm)
/-- What a name's file holds. -/
theorem Ld.read {Ns : List Sv} {Ys : List Yv} {V : List Fv} (h : Ld Ns Ys (V.map fl)) (hr : Rise V) {s : St} (hs : s.fs = V.map fl) (h0 : s.off = false) (h1 : s.bad = 0) {i : Nat} (hi : i < Ns.length) : readZ none s Ns[i]!.s = (Ys[i]!.b, 0) := by
  obtain ⟨f, hfm, e1, e2⟩ := h.at hi
  obtain ⟨v, hv, rfl⟩ := List.mem_map.1 hfm
  obtain ⟨A, M, B, P⟩ := part_at hr Ns[i]!.s
  have hok := h.ok Ns[i]! (by rw [getElem!_pos Ns i hi]; exact List.getElem_mem hi)
  have ha : (askZ none s [Ns[i]!.s]).1 = 0 := by
    show (askD s _).1 = 0
    rw [askD_go h0 h1 (by rw [List.all_cons, hok]; rfl)]
  rcases P.m with ⟨_, e⟩ | ⟨t, g, e, hg⟩
  · exfalso
    rw [P.v, e, List.append_nil] at hv
    rcases List.mem_append.1 hv with q | q
    · exact P.na v q e1
    · exact P.nb v q e1
  · have hvg : v = g := by
      rw [P.v, e] at hv
      rcases List.mem_append.1 hv with q | q
      · rcases List.mem_append.1 q with q | q
        · exact absurd e1 (P.na v q)
        · exact List.mem_singleton.1 q
      · exact absurd e1 (P.nb v q)
    unfold readZ
    rw [if_neg (fun k => k ha), hs, if_pos t, P.dataAt t, e]
    subst hvg
    show (v.b, _) = _
    rw [← e2]; rfl
/-- What is listed. -/
theorem lis_go {s : St} (h0 : s.off = false) (h1 : s.bad = 0) (x : ByteArray) : lisZ none s x = (lst x s.fs, 0) ∧ (askZ none s []).2.2 = s := by
  have : askZ none s [] = (0, none, s) := by
    show ((askD s []).1, none, (askD s []).2) = _
    rw [askD_go h0 h1 rfl]
  unfold lisZ
  rw [this]
  exact ⟨rfl, rfl⟩
def pf (x p : ByteArray) : Bool := pre (tx p) (tx x)
theorem lst_filter (x : ByteArray) (l : List Fl) : lst x l = (l.map fun f => f.path).filter (pf x) := by
  unfold lst
  rw [List.filter_map]
  rfl
theorem filter_take {T : List ByteArray} {x : ByteArray} {i : Nat} (hi : i < T.length) : (T.take (i + 1)).filter (pf x) = (T.take i).filter (pf x) ++ (if pf x T[i] = true then [T[i]] else []) := by
  rw [← List.take_append_getElem hi, List.filter_append, List.filter_cons, List.filter_nil]
theorem filter_at {T : List ByteArray} {x : ByteArray} {i : Nat} (hi : i < T.length) (h : pf x T[i] = true) : (T.filter (pf x))[((T.take i).filter (pf x)).length]? = some T[i] := by
  have e : T.filter (pf x) = (T.take i).filter (pf x) ++ T[i] :: (T.drop (i + 1)).filter (pf x) := by
    conv => lhs; rw [← List.take_append_drop i T, List.drop_eq_getElem_cons hi]
    rw [List.filter_append, List.filter_cons, if_pos h]
  rw [e, List.getElem?_append_right (Nat.le_refl _), Nat.sub_self]; rfl
theorem open_str {H : Type} {enc : TypeId × Value → H} {W : World} {r : Reach} {b0 base : Nat} {sp : Nat → Bool} {held : Bool} {v : Value} {d : DataW H} {p : List MemPlace} (hv : Value.okWide Try.prog W r b0 9 v) (h : DataW.Trod enc Try.prog W base sp held 9 v d p) :
    ∃ s : ByteArray, s.size ≤ maxLen ∧ v = .string s := by
  obtain ⟨s, e, _, _, hs⟩ := ChangeMaps.open_string Try.underlying9 hv h
  exact ⟨s, hs, e⟩
end Go.Proofs.Ythkhkijdehbbmaa
