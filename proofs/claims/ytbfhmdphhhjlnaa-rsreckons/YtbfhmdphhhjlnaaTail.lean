/-
  A region of which the operations below n leave the world as it is, and those from n on come one behind the other and wait for all below n but one, which has come up already: it may be walked in the text's order.
-/
import Derived.Test.YtbfhmdphhhjlnaaRMul
namespace Go.Proofs.Ytbfhmdphhhjlnaa
open Go

section
variable {P : Program} {ops : Array Oper} {md : Region.Mode} {w : World}

/-- For each operation below n but x waits a later one, up to n, that is not x. -/
def sinkX (md : Region.Mode) (ops : Array Oper) (n x : Nat) : Bool :=
  (List.range n).all fun i => decide (i = x) || (List.range (n + 1)).any fun j => decide (i < j ∧ j ≠ x) && Region.waitsFor md ops j i

theorem waits_out {listed : Array Bool} {t i : Nat} (h : Region.waitsFor md ops t i = true) (hun : listed.getD i false = false) : t ∉ Region.ready md ops listed := fun hr => by
  obtain ⟨_, ot, hot, hall⟩ := mem_ready.1 hr
  obtain ⟨o', ho', e, he, hb, hon⟩ := Region.waitsFor_spec h
  rw [hot] at ho'
  injection ho' with ho'
  subst ho'
  have := hall e he hb
  rw [hon, hun] at this
  cases this
theorem waits_un {n : Nat} {listed : Array Bool} (inv : HeadInv md ops n listed) {j i : Nat} (h : Region.waitsFor md ops j i = true) (hun : listed.getD i false = false) : listed.getD j false = false := by
  obtain ⟨oj, hoj, e, he, hb, hon⟩ := Region.waitsFor_spec h
  cases q : listed.getD j false with
  | false => rfl
  | true =>
    have := inv.closed j oj hoj q e he hb
    rw [hon, hun] at this
    cases this

theorem late {n x : Nat} {listed : Array Bool} (hs : sinkX md ops n x = true) (hc : Region.chainB md ops n = true) (hn : n < ops.size) (inv : HeadInv md ops n listed) :
    ∀ (d i : Nat), n - i = d → i < n → i ≠ x → listed.getD i false = false → ∀ t, t ∈ Region.ready md ops listed → t < n := by
  intro d
  induction d using Nat.strongRecOn with
  | _ d ih =>
    intro i hd hi hx hun t hr
    rcases Nat.lt_or_ge t n with h | h
    · exact h
    · exfalso
      rcases Nat.lt_or_ge n t with h' | h'
      · have hts : t < ops.size := by
          obtain ⟨_, ot, hot, _⟩ := mem_ready.1 hr
          exact (Array.getElem?_eq_some_iff.1 hot).1
        have c := List.all_eq_true.1 hc t (List.mem_range.2 hts)
        simp only [Bool.or_eq_true, decide_eq_true_eq] at c
        rcases c with c | c
        · omega
        · exact waits_out c (getD_both (inv.tail (t - 1) (by omega) (by omega))) hr
      · obtain rfl : t = n := by omega
        have s := List.all_eq_true.1 hs i (List.mem_range.2 hi)
        simp only [Bool.or_eq_true, decide_eq_true_eq] at s
        rcases s with s | s
        · exact hx s
        · obtain ⟨j, hj, hj2⟩ := List.any_eq_true.1 s
          simp only [Bool.and_eq_true, decide_eq_true_eq] at hj2
          have hjt := List.mem_range.1 hj
          rcases Nat.lt_or_ge j t with q | q
          · exact absurd (ih (t - j) (by omega) j rfl q hj2.1.2 (waits_un inv hj2.2 hun) t hr) (by omega)
          · obtain rfl : j = t := by omega
            exact waits_out hj2.2 hun hr

theorem still_first {n x i : Nat} {oi : Oper} {v : Value} {L : Array Bool → Act → Prop} (hs : sinkX md ops n x = true) (hc : Region.chainB md ops n = true) (hn : n < ops.size) (hsel : ∀ (j : Nat) (o : Oper) cs b, ops[j]? = some o → o.op ≠ .select cs b)
    (hi : ops[i]? = some oi) (hin : i < n) (hix : i ≠ x) (hdone : ∀ listed a, L listed a → ∀ j ∈ Region.ready md ops listed, n ≤ j) (f : Nat) :
    ∀ (listed : Array Bool) (a : Act), HeadInv md ops n listed →
      (∀ j oj, ops[j]? = some oj → j ≠ i → listed.getD j true = false → (∀ e ∈ oj.after, Region.binds md e = true → e.on ≠ i) → oi.apart ops oj = true) →
      i ∈ Region.ready md ops listed → YieldsAt P ops w oi v a → wpAnyL P md ops w n L f (listed.setIfInBounds i true) (a.put oi.dst v) → wpAnyL P md ops w n L (f + 1) listed a := by
  induction f with
  | zero =>
    intro listed a inv _ hr hy H
    refine ⟨List.ne_nil_of_mem hr, fun j hj => ?_⟩
    have hjn := late hs hc hn inv _ i rfl hin hix (getD_both (mem_ready.1 hr).1) j hj
    rcases Nat.decEq j i with q | q
    · exact absurd (hdone _ _ H j (ready_mono hj q)) (by omega)
    · subst q; exact ⟨hjn, hy.stOp hi H⟩
  | succ f ih =>
    intro listed a inv hfree hr hy H
    have hun := (mem_ready.1 hr).1
    refine ⟨List.ne_nil_of_mem hr, fun j hj => ?_⟩
    have hjn := late hs hc hn inv _ i rfl hin hix (getD_both hun) j hj
    refine ⟨hjn, ?_⟩
    rcases Nat.decEq j i with q | q
    · obtain ⟨hjun, oj, hoj, hall⟩ := mem_ready.1 hj
      have apart := hfree j oj hoj q hjun fun e he hb x => by
        have := hall e he hb
        rw [x, getD_both hun] at this
        cases this
      have both := stOp_put hoj apart (fun cs b => hsel i oi cs b hi) (fun cs b => hsel j oj cs b hoj) hy (H.2 j (ready_mono hj q)).2
      refine stOp_mono (fun a' ha' => ih (listed.setIfInBounds j true) a' (inv.set hj hjn) (fun k ok hk hki hku hno => hfree k ok hk hki ?_ hno) (ready_mono hr (Ne.symm q)) ha'.1 ?_) both
      · rcases Nat.decEq j k with z | z
        · rwa [getD_set_ne true z] at hku
        · subst z; exact hjun
      · rw [Array.setIfInBounds_comm _ _ q]; exact ha'.2
    · subst q; exact hy.stOp hi H

/-- May these be walked one after the other, each below n and none x? And what is listed then. -/
def walkX (md : Region.Mode) (ops : Array Oper) (n x : Nat) : List Nat → Array Bool → Bool
  | [], _ => true
  | k :: ks, listed => decide (k < n ∧ k ≠ x) && (Region.ready md ops listed).contains k && Region.free md ops listed k && walkX md ops n x ks (listed.setIfInBounds k true)
def listX : List Nat → Array Bool → Array Bool
  | [], listed => listed
  | k :: ks, listed => listX ks (listed.setIfInBounds k true)

theorem still_walk {n x : Nat} {Lq : Act → Prop} {full : Array Bool} (hs : sinkX md ops n x = true) (hc : Region.chainB md ops n = true) (hn : n < ops.size) (hsel : Region.noSelect ops = true) (hfull : ∀ j ∈ Region.ready md ops full, n ≤ j) :
    ∀ (ks : List Nat) (l : List Oper) (listed : Array Bool) (a : Act), l.map some = ks.map (fun k => ops[k]?) → HeadInv md ops n listed → walkX md ops n x ks listed = true → listX ks listed = full →
      wpStill P ops w Lq l a → wpAnyL P md ops w n (fun listed' a' => listed' = full ∧ Lq a') ks.length listed a
  | [], [], _, _, _, _, _, hF, h => ⟨hF, h⟩
  | [], _ :: _, _, _, hl, _, _, _, _ => by simp at hl
  | _ :: _, [], _, _, hl, _, _, _, _ => by simp at hl
  | k :: ks, o :: l, listed, a, hl, inv, hW, hF, h => by
    simp only [List.map_cons, List.cons.injEq] at hl
    have h0 : ops[k]? = some o := hl.1.symm
    simp only [walkX, Bool.and_eq_true, decide_eq_true_eq] at hW
    have hr : k ∈ Region.ready md ops listed := by simpa using hW.1.1.2
    obtain ⟨v, hy, hK⟩ := yieldsAt_of_stOp h0 (show stOp P ops w k (wpStill P ops w Lq l) a by unfold stOp; simp only [h0]; exact h)
    exact still_first hs hc hn (Region.noSelect_spec hsel) h0 hW.1.1.1.1 hW.1.1.1.2 (fun listed' a' hL => by rw [hL.1]; exact hfull) ks.length listed a inv (Region.free_spec h0 hW.1.2) hr hy
      (still_walk hs hc hn hsel hfull ks l _ _ hl.2 (inv.set hr hW.1.1.1.1) hW.2 hF hK)

/-- All that is asked of the region, in one look. -/
def partsB (md : Region.Mode) (ops : Array Oper) (n x : Nat) (ks : List Nat) (listed full : Array Bool) : Bool :=
  sinkX md ops n x && Region.chainB md ops n && decide (n < ops.size) && Region.noSelect ops && walkX md ops n x ks listed && (Region.ready md ops full).all (fun j => decide (n ≤ j)) && Region.seqB md ops (ops.size - n) n full

theorem head_start (n : Nat) : HeadInv md ops n (Array.replicate ops.size false) :=
  ⟨by simp, fun j oj _ hl => (by rw [getD_replicate_false] at hl; cases hl), fun t _ ht => getD_in (by simpa using ht) (getD_replicate_false _ _)⟩

theorem any_parts {Q : Exit → Act → World → Prop} {a : Act} {w : World} {l : List Oper} (n x f : Nat) (ks : List Nat) (full : Array Bool) (hr : (Region.ready .any l.toArray (Array.replicate l.toArray.size false)).contains x = true) (hxn : x < n)
    (hB : partsB .any l.toArray n x ks ((Array.replicate l.toArray.size false).setIfInBounds x true) full = true) (hF : listX ks ((Array.replicate l.toArray.size false).setIfInBounds x true) = full)
    (hl : (l.take x ++ (l.drop (x + 1)).take (n - x - 1)).map some = ks.map (fun k => l.toArray[k]?)) (hf : f = ks.length + (l.length - n))
    (h : wpStill P l.toArray w (fun a' => wpList P l.toArray Q (l.drop n) a' w) (l.take x ++ (l.drop (x + 1)).take (n - x - 1)) a) : wpAny P .any l.toArray Q f ((Array.replicate l.toArray.size false).setIfInBounds x true) a w := by
  simp only [partsB, Bool.and_eq_true, decide_eq_true_eq] at hB
  obtain ⟨⟨⟨⟨⟨⟨hs, hc⟩, hn⟩, hsel⟩, hW⟩, hR⟩, hq⟩ := hB
  have inv := (head_start (md := .any) (ops := l.toArray) n).set (by simpa using hr) hxn
  have H := still_walk (md := .any) (full := full) hs hc hn hsel (fun j hj => by have := List.all_eq_true.1 hR j hj; simpa using this) ks _ _ a hl inv hW hF h
  have hdl : (l.drop n).length = l.length - n := by simp
  have := wpAny_of_head (Q' := Q) (g := l.length - n) (fun listed a' hL => by
    rw [hL.1]
    have q := wpAny_of_seq (md := .any) (Q' := Q) (l.drop n) n full a' w (fun j => by simp [List.getElem?_drop]) (by rw [hdl]; simpa using hq) hL.2
    rwa [hdl] at q) _ _ _ H
  rw [hf]; exact this
end
end Go.Proofs.Ytbfhmdphhhjlnaa
