/-
  A region that draws its order, of which some operations (the heads) are quiet in a class of worlds and the others (the tail) come one behind the other, none ahead of the last head: it may be walked heads first, in the order that is given.
-/
import Derived.Test.YtfgngecenbopnaaDoorGrw
import Derived.StillTail
namespace Go.Proofs.YtfgngecenbopnaaDoor
open Go

/-- For each head waits a later one, or the tail's first. -/
def sinkL (md : Region.Mode) (ops : Array Oper) (t0 : Nat) : List Nat → Bool
  | [] => true
  | k :: ks => (ks ++ [t0]).any (fun j => Region.waitsFor md ops j k) && sinkL md ops t0 ks
/-- Each of the tail waits for the one ahead of it. -/
def chainL (md : Region.Mode) (ops : Array Oper) : List Nat → Bool
  | [] => true
  | [_] => true
  | t :: t' :: ts => Region.waitsFor md ops t' t && chainL md ops (t' :: ts)
/-- What is listed is closed, none of the tail is listed, and all that is not listed is a head or of the tail. -/
structure Phase (md : Region.Mode) (ops : Array Oper) (ks ts : List Nat) (listed : Array Bool) : Prop where
  closed : ∀ j oj, ops[j]? = some oj → listed.getD j false = true → ∀ e ∈ oj.after, Region.binds md e = true → listed.getD e.on false = true
  tail : ∀ t, t ∈ ts → listed.getD t false = false
  cover : ∀ i, listed.getD i true = false → i ∈ ks ∨ i ∈ ts

theorem wait_out {md : Region.Mode} {ops : Array Oper} {listed : Array Bool} {t i : Nat} (h : Region.waitsFor md ops t i = true) (hun : listed.getD i false = false) : t ∉ Region.ready md ops listed := fun hr => by
  obtain ⟨_, ot, hot, hall⟩ := mem_ready.1 hr
  obtain ⟨o', ho', e, he, hb, hon⟩ := Region.waitsFor_spec h
  rw [hot] at ho'
  injection ho' with ho'
  subst ho'
  have := hall e he hb
  rw [hon, hun] at this
  cases this
theorem Phase.un {md : Region.Mode} {ops : Array Oper} {ks ts : List Nat} {listed : Array Bool} (ph : Phase md ops ks ts listed) {j i : Nat} (h : Region.waitsFor md ops j i = true) (hun : listed.getD i false = false) : listed.getD j false = false := by
  obtain ⟨oj, hoj, e, he, hb, hon⟩ := Region.waitsFor_spec h
  cases q : listed.getD j false with
  | false => rfl
  | true =>
    have := ph.closed j oj hoj q e he hb
    rw [hon, hun] at this
    cases this
/-- As long as a head is not listed, the tail's first is not ready. -/
theorem Phase.first {md : Region.Mode} {ops : Array Oper} {ks ts : List Nat} {listed : Array Bool} (ph : Phase md ops ks ts listed) {t0 : Nat} :
    ∀ (l : List Nat), sinkL md ops t0 l = true → ∀ k, k ∈ l → listed.getD k false = false → t0 ∉ Region.ready md ops listed
  | [], _, _, hk, _ => by cases hk
  | x :: l, hs, k, hk, hun => by
    simp only [sinkL, Bool.and_eq_true] at hs
    rcases List.mem_cons.1 hk with e | hk'
    · subst e
      obtain ⟨j, hj, hw⟩ := List.any_eq_true.1 hs.1
      rcases List.mem_append.1 hj with h1 | h1
      · exact ph.first l hs.2 j h1 (ph.un hw hun)
      · have : j = t0 := by simpa using h1
        subst this
        exact wait_out hw hun
    · exact ph.first l hs.2 k hk' hun
theorem Phase.others {md : Region.Mode} {ops : Array Oper} {listed : Array Bool} :
    ∀ (t0 : Nat) (l : List Nat), chainL md ops (t0 :: l) = true → (∀ t, t ∈ t0 :: l → listed.getD t false = false) → ∀ t, t ∈ l → t ∉ Region.ready md ops listed
  | _, [], _, _, _, ht => by cases ht
  | t0, t1 :: l, hc, hu, t, ht => by
    simp only [chainL, Bool.and_eq_true] at hc
    rcases List.mem_cons.1 ht with e | ht'
    · subst e
      exact wait_out hc.1 (hu t0 (by simp))
    · exact Phase.others t1 l hc.2 (fun s hs => hu s (by simp [hs])) t ht'
theorem Phase.late {md : Region.Mode} {ops : Array Oper} {ks l : List Nat} {t0 : Nat} {listed : Array Bool} (ph : Phase md ops ks (t0 :: l) listed) (hs : sinkL md ops t0 ks = true) (hc : chainL md ops (t0 :: l) = true)
    {k : Nat} (hk : k ∈ ks) (hun : listed.getD k false = false) {j : Nat} (hj : j ∈ Region.ready md ops listed) : j ∈ ks := by
  rcases ph.cover j (mem_ready.1 hj).1 with h | h
  · exact h
  · rcases List.mem_cons.1 h with e | h'
    · subst e; exact absurd hj (ph.first ks hs k hk hun)
    · exact absurd hj (Phase.others t0 l hc ph.tail j h')
theorem Phase.set {md : Region.Mode} {ops : Array Oper} {ks ts : List Nat} {listed : Array Bool} (ph : Phase md ops ks ts listed) {i : Nat} (hi : i ∈ Region.ready md ops listed) (hit : i ∉ ts) : Phase md ops ks ts (listed.setIfInBounds i true) := by
  obtain ⟨_, oi, hoi, hall⟩ := mem_ready.1 hi
  refine ⟨fun j oj hj hl e he hb => ?_, fun t ht => ?_, fun k hk => ?_⟩
  · by_cases q : i = j
    · subst q
      rw [hoi] at hj
      injection hj with hj
      subst hj
      exact getD_set_true (hall e he hb)
    · rw [getD_set_ne false q] at hl
      exact getD_set_true (ph.closed j oj hj hl e he hb)
  · have hne : i ≠ t := fun q => by subst q; exact hit ht
    rw [getD_set_ne false hne]; exact ph.tail t ht
  · by_cases q : i = k
    · subst q
      exact ph.cover i (mem_ready.1 hi).1
    · rw [getD_set_ne true q] at hk
      exact ph.cover k hk

/-- Whatever order the heads come in. -/
def wpHeads (P : Program) (md : Region.Mode) (ops : Array Oper) (C : World → Prop) (L : Array Bool → Act → Prop) : Nat → Array Bool → Act → Prop
  | 0, listed, a => L listed a
  | f + 1, listed, a => Region.ready md ops listed ≠ [] ∧ ∀ i ∈ Region.ready md ops listed, qOp P ops C i (wpHeads P md ops C L f (listed.setIfInBounds i true)) a
theorem wpAny_of_heads {P : Program} {md : Region.Mode} {ops : Array Oper} {C : World → Prop} {L : Array Bool → Act → Prop} {g : Nat} {Q : Exit → Act → World → Prop} (hL : ∀ listed a w, C w → L listed a → wpAny P md ops Q g listed a w) :
    ∀ (f : Nat) (listed : Array Bool) (a : Act) (w : World), C w → wpHeads P md ops C L f listed a → wpAny P md ops Q (f + g) listed a w
  | 0, listed, a, w, hw, h => by rw [Nat.zero_add]; exact hL _ _ _ hw h
  | f + 1, listed, a, w, hw, h => by
    rw [show f + 1 + g = (f + g) + 1 by omega]
    exact ⟨fun h0 => absurd h0 h.1, fun i hi => wpOp_of_qOp hw (fun a' w' hw' h' => wpAny_of_heads hL f _ a' w' hw' h') (h.2 i hi)⟩
theorem heads_first {P : Program} {md : Region.Mode} {ops : Array Oper} {C : World → Prop} {ks l : List Nat} {t0 i : Nat} {oi : Oper} {v : Value} {L : Array Bool → Act → Prop} (hs : sinkL md ops t0 ks = true) (hc : chainL md ops (t0 :: l) = true)
    (hdis : ∀ k, k ∈ ks → k ∉ t0 :: l) (hsel : ∀ (j : Nat) (o : Oper) cs b, ops[j]? = some o → o.op ≠ .select cs b)
    (hi : ops[i]? = some oi) (hik : i ∈ ks) (hdone : ∀ listed a, L listed a → ∀ j ∈ Region.ready md ops listed, j ∉ ks) (f : Nat) :
    ∀ (listed : Array Bool) (a : Act), Phase md ops ks (t0 :: l) listed →
      (∀ j oj, ops[j]? = some oj → j ≠ i → listed.getD j true = false → (∀ e ∈ oj.after, Region.binds md e = true → e.on ≠ i) → oi.apart ops oj = true) →
      i ∈ Region.ready md ops listed → YieldsIn P ops C oi v a → wpHeads P md ops C L f (listed.setIfInBounds i true) (a.put oi.dst v) → wpHeads P md ops C L (f + 1) listed a := by
  induction f with
  | zero =>
    intro listed a ph _ hr hy H
    refine ⟨List.ne_nil_of_mem hr, fun j hj => ?_⟩
    have hjk := ph.late hs hc hik (getD_both (mem_ready.1 hr).1) hj
    rcases Nat.decEq j i with q | q
    · exact absurd hjk (hdone _ _ H j (ready_mono hj q))
    · subst q; exact hy.qOp hi H
  | succ f ih =>
    intro listed a ph hfree hr hy H
    have hun := (mem_ready.1 hr).1
    refine ⟨List.ne_nil_of_mem hr, fun j hj => ?_⟩
    have hjk := ph.late hs hc hik (getD_both hun) hj
    rcases Nat.decEq j i with q | q
    · obtain ⟨hjun, oj, hoj, hall⟩ := mem_ready.1 hj
      have apart := hfree j oj hoj q hjun fun e he hb x => by
        have := hall e he hb
        rw [x, getD_both hun] at this
        cases this
      have both := qOp_put hoj apart (fun cs b => hsel i oi cs b hi) (fun cs b => hsel j oj cs b hoj) hy (H.2 j (ready_mono hj q))
      refine qOp_mono (fun a' ha' => ih (listed.setIfInBounds j true) a' (ph.set hj (hdis j hjk)) (fun k ok hk hki hku hno => hfree k ok hk hki ?_ hno) (ready_mono hr (Ne.symm q)) ha'.1 ?_) both
      · rcases Nat.decEq j k with z | z
        · rwa [getD_set_ne true z] at hku
        · subst z; exact hjun
      · rw [Array.setIfInBounds_comm _ _ q]; exact ha'.2
    · subst q; exact hy.qOp hi H

/-- May these be walked one after the other? And what is listed then. -/
def walkL (md : Region.Mode) (ops : Array Oper) : List Nat → Array Bool → Bool
  | [], _ => true
  | k :: ks, listed => (Region.ready md ops listed).contains k && Region.free md ops listed k && walkL md ops ks (listed.setIfInBounds k true)
def listL : List Nat → Array Bool → Array Bool
  | [], listed => listed
  | k :: ks, listed => listL ks (listed.setIfInBounds k true)
theorem heads_walk {P : Program} {md : Region.Mode} {ops : Array Oper} {C : World → Prop} {K l : List Nat} {t0 : Nat} {Lq : Act → Prop} {full : Array Bool} (hs : sinkL md ops t0 K = true) (hc : chainL md ops (t0 :: l) = true)
    (hdis : ∀ k, k ∈ K → k ∉ t0 :: l) (hsel : Region.noSelect ops = true) (hfull : ∀ j ∈ Region.ready md ops full, j ∉ K) :
    ∀ (ks : List Nat) (os : List Oper) (listed : Array Bool) (a : Act), (∀ k, k ∈ ks → k ∈ K) → os.map some = ks.map (fun k => ops[k]?) → Phase md ops K (t0 :: l) listed → walkL md ops ks listed = true → listL ks listed = full →
      wpQuiet P ops C Lq os a → wpHeads P md ops C (fun listed' a' => listed' = full ∧ Lq a') ks.length listed a
  | [], [], _, _, _, _, _, _, hF, h => ⟨hF, h⟩
  | [], _ :: _, _, _, _, hl, _, _, _, _ => by simp at hl
  | _ :: _, [], _, _, _, hl, _, _, _, _ => by simp at hl
  | k :: ks, o :: os, listed, a, hK, hl, ph, hW, hF, h => by
    simp only [List.map_cons, List.cons.injEq] at hl
    have h0 : ops[k]? = some o := hl.1.symm
    simp only [walkL, Bool.and_eq_true] at hW
    have hr : k ∈ Region.ready md ops listed := by simpa using hW.1.1
    have hkK := hK k (by simp)
    obtain ⟨v, hy, hN⟩ := yieldsIn_of_qOp h0 (show qOp P ops C k (wpQuiet P ops C Lq os) a by unfold qOp; simp only [h0]; exact h)
    exact heads_first hs hc hdis (Region.noSelect_spec hsel) h0 hkK (fun listed' a' hL => by rw [hL.1]; exact hfull) ks.length listed a ph (Region.free_spec h0 hW.1.2) hr hy
      (heads_walk hs hc hdis hsel hfull ks os _ _ (fun k' hk' => hK k' (by simp [hk'])) hl.2 (ph.set hr (hdis k hkK)) hW.2 hF hN)

/-- The tail's operations come up one by one. -/
def seqL (md : Region.Mode) (ops : Array Oper) : List Nat → Array Bool → Bool
  | [], listed => (Region.ready md ops listed).isEmpty
  | t :: ts, listed => decide (Region.ready md ops listed = [t]) && seqL md ops ts (listed.setIfInBounds t true)
theorem any_seq {P : Program} {md : Region.Mode} {ops : Array Oper} {Q : Exit → Act → World → Prop} :
    ∀ (ts : List Nat) (os : List Oper) (listed : Array Bool) (a : Act) (w : World), os.map some = ts.map (fun k => ops[k]?) → seqL md ops ts listed = true → wpList P ops Q os a w → wpAny P md ops Q ts.length listed a w
  | [], [], _, _, _, _, hB, h => ⟨by simpa [seqL] using hB, h⟩
  | [], _ :: _, _, _, _, hl, _, _ => by simp at hl
  | _ :: _, [], _, _, _, hl, _, _ => by simp at hl
  | t :: ts, o :: os, listed, a, w, hl, hB, h => by
    simp only [List.map_cons, List.cons.injEq] at hl
    have h0 : ops[t]? = some o := hl.1.symm
    simp only [seqL, Bool.and_eq_true, decide_eq_true_eq] at hB
    refine ⟨fun q => (by rw [hB.1] at q; cases q), fun i hi => ?_⟩
    rw [hB.1] at hi
    obtain rfl : i = t := by simpa using hi
    exact wpOp_mono (fun a' w' h' => any_seq ts os _ a' w' hl.2 hB.2 h') (show wpOp P ops Q i (wpList P ops Q os) a w by unfold wpOp; simp only [h0]; exact h)

/-- All that is asked of the region, in one look. -/
def partL (md : Region.Mode) (ops : Array Oper) (ks : List Nat) (t0 : Nat) (l : List Nat) (listed full : Array Bool) : Bool :=
  sinkL md ops t0 ks && chainL md ops (t0 :: l) && ks.all (fun k => !(t0 :: l).contains k) && Region.noSelect ops && (Region.ready md ops full).all (fun j => !ks.contains j) && walkL md ops ks listed && decide (listL ks listed = full) && seqL md ops (t0 :: l) full
    && (List.range ops.size).all (fun j => !listed.getD j false || (ops[j]?.all fun o => o.after.all fun e => !Region.binds md e || listed.getD e.on false)) && (t0 :: l).all (fun t => !listed.getD t false)
    && (List.range listed.size).all (fun i => listed.getD i true || ks.contains i || (t0 :: l).contains i) && decide (listed.size = ops.size)
theorem any_parts {P : Program} {C : World → Prop} {Q : Exit → Act → World → Prop} {a : Act} {w : World} {ops : Array Oper} (ks : List Nat) (t0 : Nat) (l : List Nat) (os ps : List Oper) (listed full : Array Bool) (f : Nat)
    (hB : partL .any ops ks t0 l listed full = true) (ho : os.map some = ks.map (fun k => ops[k]?)) (hp : ps.map some = (t0 :: l).map (fun k => ops[k]?)) (hf : f = ks.length + (t0 :: l).length) (hC : C w)
    (h : wpQuiet P ops C (fun a' => ∀ w', C w' → wpList P ops Q ps a' w') os a) : wpAny P .any ops Q f listed a w := by
  simp only [partL, Bool.and_eq_true, decide_eq_true_eq] at hB
  obtain ⟨⟨⟨⟨⟨⟨⟨⟨⟨⟨⟨hs, hc⟩, hd⟩, hsel⟩, hR⟩, hW⟩, hF⟩, hq⟩, hcl⟩, htl⟩, hcv⟩, hsz⟩ := hB
  have hdis : ∀ k, k ∈ ks → k ∉ t0 :: l := fun k hk q => by
    have := List.all_eq_true.1 hd k hk
    simp [q] at this
  have ph : Phase .any ops ks (t0 :: l) listed := by
    refine ⟨fun j oj hj hl e he hb => ?_, fun t ht => ?_, fun i hi => ?_⟩
    · have hjs : j < ops.size := (Array.getElem?_eq_some_iff.1 hj).1
      have := List.all_eq_true.1 hcl j (List.mem_range.2 hjs)
      rw [hl, hj] at this
      simp only [Bool.not_true, Bool.false_or, Option.all_some] at this
      have := Array.all_eq_true'.1 this e he
      rw [hb] at this
      simpa using this
    · have := List.all_eq_true.1 htl t ht
      simpa using this
    · have his : i < listed.size := by
        rcases Nat.lt_or_ge i listed.size with h | h
        · exact h
        · simp [Array.getElem?_eq_none h] at hi
      have := List.all_eq_true.1 hcv i (List.mem_range.2 his)
      rw [hi] at this
      simpa using this
  have H := heads_walk (P := P) (C := C) (md := .any) (full := full) hs hc hdis hsel (fun j hj q => by have := List.all_eq_true.1 hR j hj; simp [q] at this) ks os listed a (fun _ h => h) ho ph hW hF h
  have := wpAny_of_heads (Q := Q) (g := (t0 :: l).length) (fun listed' a' w' hw' hL => by
    rw [hL.1]
    exact any_seq (t0 :: l) ps full a' w' hp hq (hL.2 w' hw')) _ _ _ w hC H
  rw [hf]; exact this
/-- The first n are heads, the others the tail. -/
def headB (l : List Oper) (n : Nat) : Bool :=
  decide (n < l.length) && partL .any l.toArray (List.range n) n (List.range' (n + 1) (l.length - n - 1)) (Array.replicate l.toArray.size false) (listL (List.range n) (Array.replicate l.toArray.size false))
theorem region_head {P : Program} {C : World → Prop} {id : Nat} {Q : Exit → Act → World → Prop} {a : Act} {w : World} {l : List Oper} (n : Nat) (hm : P.follows .mixedOrders = true) (hB : headB l n = true) (hC : C w.drew)
    (h : wpQuiet P l.toArray C (fun a' => ∀ w', C w' → wpList P l.toArray Q (l.drop n) a' w') (l.take n) a) : (Code.region id l.toArray true).wp P Q a w := by
  simp only [headB, Bool.and_eq_true, decide_eq_true_eq] at hB
  have hn := hB.1
  refine wp_region_any hm (any_parts (C := C) (List.range n) n (List.range' (n + 1) (l.length - n - 1)) (l.take n) (l.drop n) _ _ _ hB.2 ?_ ?_ ?_ hC h)
  · apply List.ext_getElem?
    intro i
    by_cases hi : i < n
    · have hil : i < l.length := by omega
      simp [hi, hil]
    · simp [hi]; omega
  · apply List.ext_getElem?
    intro i
    have e : n :: List.range' (n + 1) (l.length - n - 1) = List.range' n (l.length - n) := by
      rw [show l.length - n = (l.length - n - 1) + 1 by omega, List.range'_succ]
      simp
    rw [e]
    by_cases hi : n + i < l.length
    · simp [hi, show i < l.length - n by omega]
    · simp [show ¬ i < l.length - n by omega]
  · simp; omega
end Go.Proofs.YtfgngecenbopnaaDoor
