/-
  Texts of earlier stages, one behind the other: SdH, SdI, SdJ.
-/
import Derived.Test.YtebngmgdciahiaaDoorG7
import Derived.Test.YtebngmgdciahiaaDoorG5
import Derived.Laws.BitsAllLaws
set_option maxRecDepth 100000
namespace Go.Proofs.YtebngmgdciahiaaDoor
open Go.RowKit
open _root_.Go.Proofs.YtebngmgdciahiaaDoor.Nm _root_.Go.Proofs.YtebngmgdciahiaaDoor.Dk
attribute [local go_sem ↓] Go.wp_at_zero Go.wp_at_succ
set_option linter.unusedVariables false

theorem FOwn.setB {w : World} {base g c j : Nat} {L : List Fv} (h : FOwn w base (.slice (some ⟨g, 0, none⟩) L.length c) L) (hj : j < L.length) (nb : Option Addr × Nat × Nat) (b' : ByteArray) :
    FOwn (w.setCell ⟨g, j * 3 + 1, none⟩ (.slice nb.1 nb.2.1 nb.2.2)) base (.slice (some ⟨g, 0, none⟩) L.length c) (L.set j { L[j]! with bv := nb, b := b' }) := by
  rcases h with ⟨hl, ⟨e, _⟩ | ⟨g', cap, cur, e, hg, hh, hnc, hm, hs, ht⟩⟩
  · cases e
  · injection e with e1 e2 e3
    injection e1 with e1
    injection e1 with e1
    subst e1; subst e3
    refine ⟨fcs_length _, .inr ⟨g, c, _, by rw [List.length_set], hg, heap_setCell_same w g (j * 3 + 1) _ _ (.slice nb.1 nb.2.1 nb.2.2) hh, by rw [List.length_set]; exact hnc, hm, by rw [Array.size_setIfInBounds]; exact hs, ?_⟩⟩
    have hcl : cur.toList.length = c * 3 := by rw [Array.length_toList]; exact hs
    refine fcs_ext ?_ fun i hi r hr => ?_
    · rw [List.length_take, Array.toList_setIfInBounds, List.length_set, List.length_set, hcl]; omega
    · rw [List.length_set] at hi
      rw [List.getElem?_take, List.length_set, if_pos (by omega), Array.toList_setIfInBounds, List.getElem?_set]
      have hcur : cur.toList[i * 3 + r]? = (cellsF L[i]!)[r]? := by
        rw [← fcs_at L i hi r hr, ← ht, List.getElem?_take, if_pos (by omega)]
      by_cases ei : i = j
      · subst ei
        have e2 : (L.set i { L[i]! with bv := nb, b := b' })[i]! = { L[i]! with bv := nb, b := b' } := by
          rw [getElem!_pos _ i (by rw [List.length_set]; exact hi), List.getElem_set_self]
        rw [e2]
        match r, hr with
        | 0, _ => rw [if_neg (by omega), hcur]; rfl
        | 1, _ => rw [if_pos rfl, if_pos (by omega)]; rfl
        | 2, _ => rw [if_neg (by omega), hcur]; rfl
      · have e2 : (L.set j { L[j]! with bv := nb, b := b' })[i]! = L[i]! := by
          rw [getElem!_pos _ i (by rw [List.length_set]; exact hi), List.getElem_set_ne (fun q => ei q.symm), getElem!_pos L i hi]
        rw [e2, if_neg (by omega), hcur]
/-- A file's bytes are laid anew. -/
theorem DX.setB {w : World} {p g : Nat} {c j : Nat} {L : List Fv} {q : Option Nat} {s : St} (h : DX w p (some ⟨g, 0, none⟩) c L q s) (hj : j < L.length) (hpg : p ≠ g) (nb : Option Addr × Nat × Nat) (b' : ByteArray) (hb : BO w { L[j]! with bv := nb, b := b' }) (hs : b'.size ≤ 262144) :
    DX (w.setCell ⟨g, j * 3 + 1, none⟩ (.slice nb.1 nb.2.1 nb.2.2)) p (some ⟨g, 0, none⟩) c (L.set j { L[j]! with bv := nb, b := b' }) q { s with fs := s.fs.set j (fl { L[j]! with bv := nb, b := b' }) } := by
  obtain ⟨g', cur, e, hh⟩ := h.block (by omega)
  injection e with e
  injection e with e
  subst e
  have u : Upd (fun k => k = g) w (w.setCell ⟨g, j * 3 + 1, none⟩ (.slice nb.1 nb.2.1 nb.2.2)) := Upd.put (M := fun k => k = g) (Upd.refl _ w) (p := ⟨g, j * 3 + 1, none⟩) (.inl rfl) _
  have hB : ∀ x, BO w x → BO (w.setCell ⟨g, j * 3 + 1, none⟩ (.slice nb.1 nb.2.1 nb.2.2)) x := fun x hx => hx.upd u fun g2 cur2 e2 k => by
    subst k
    rw [hh] at e2
    injection e2 with e2
    injection e2 with _ e2 _
    exact absurd e2 (by decide)
  have hf : s.fs.set j (fl { L[j]! with bv := nb, b := b' }) = (L.set j { L[j]! with bv := nb, b := b' }).map fl := by rw [h.f, List.map_set]
  have hp := h.path hj
  refine ⟨?_, ?_, fun x hx => ?_, hf, ?_⟩
  · rw [heap_setCell_other _ _ _ _ hpg, List.length_set]; exact h.o
  · have := h.l.setB hj nb b'
    rw [List.length_set]; exact this
  · rcases List.mem_or_eq_of_mem_set hx with k | k
    · exact hB x (h.b x k)
    · subst k; exact hB _ hb
  · refine ⟨by show (s.fs.set j _).length ≤ _; rw [List.length_set]; exact h.wf.n, fun f hm => ?_, fun f hm => ?_, h.wf.m0, h.wf.m1, h.wf.b0, h.wf.b1⟩
    · rcases List.mem_or_eq_of_mem_set hm with k | k
      · exact h.wf.b f k
      · subst k; exact hs
    · rcases List.mem_or_eq_of_mem_set hm with k | k
      · exact h.wf.p f k
      · subst k; exact hp
/-- The round's relation. -/
structure DcW (p : Nat) (a : Option Addr) (c : Nat) (L : List Fv) (q : Option Nat) (s : St) (K : Nat) (w : World) (j : Nat) (C : List Fv) (wr : World) : Prop where
  dx : DX wr p a c C q { s with fs := C.map fl }
  l : C.length = L.length
  e : C.map fl = ((L.take j).map fl).map (crF K) ++ (L.drop j).map fl
  u : Upd (fun k => ∃ o, a = some ⟨k, o, none⟩) w wr
  g : Gw w L C
theorem DcW.at {p : Nat} {a : Option Addr} {c : Nat} {L : List Fv} {q : Option Nat} {s : St} {K : Nat} {w : World} {j : Nat} {C : List Fv} {wr : World} (h : DcW p a c L q s K w j C wr) (hj : j < L.length) : fl C[j]! = fl L[j] := by
  have h9 := congrArg (fun l => l[j]?) h.e
  have hl : j < C.length := by rw [h.l]; exact hj
  simp only [List.getElem?_map] at h9
  rw [List.getElem?_append_right (by simp; omega), List.getElem?_eq_getElem hl] at h9
  simp only [List.length_map, List.length_take, List.getElem?_map, List.getElem?_drop] at h9
  rw [Nat.min_eq_left (by omega), Nat.sub_self, Nat.add_zero, List.getElem?_eq_getElem hj] at h9
  rw [getElem!_pos C j hl]
  simpa using h9
/-- A file that is synced stays. -/
theorem DcW.sure {p : Nat} {a : Option Addr} {c : Nat} {L : List Fv} {q : Option Nat} {s : St} {K : Nat} {w : World} {j : Nat} {C : List Fv} {wr : World} (h : DcW p a c L q s K w j C wr) (hj : j < L.length) (hs : L[j].sure = true) : DcW p a c L q s K w (j + 1) C wr := by
  refine ⟨h.dx, h.l, ?_, h.u, h.g⟩
  rw [h.e, ← List.take_append_getElem hj, List.map_append, List.map_append, List.append_assoc, List.drop_eq_getElem_cons hj]
  congr 1
  show fl L[j] :: _ = crF K (fl L[j]) :: _
  congr 1
  unfold crF
  rw [if_pos (show (fl L[j]).sure = true from hs)]
/-- One that is not loses its end. -/
theorem DcW.cut {p g : Nat} {c : Nat} {L : List Fv} {q : Option Nat} {s : St} {K : Nat} {w : World} {j : Nat} {C : List Fv} {wr W : World} (h : DcW p (some ⟨g, 0, none⟩) c L q s K w j C wr) (hj : j < L.length) (hs : L[j].sure = false) (hpg : p ≠ g) (nb : Option Addr × Nat × Nat) (b' : ByteArray) (hb : BO W { C[j]! with bv := nb, b := b' }) (hbe : b' = L[j].b.extract 0 (K % (L[j].b.size + 1))) (hW : Below wr.heap.size wr W) (hn : ∀ ad : Addr, nb.1 = some ad → wr.heap.size ≤ ad.block) :
    DcW p (some ⟨g, 0, none⟩) c L q s K w (j + 1) ((C.set j { C[j]! with bv := nb, b := b' }).set j { (C.set j { C[j]! with bv := nb, b := b' })[j]! with sure := true }) ((W.setCell ⟨g, j * 3 + 1, none⟩ (.slice nb.1 nb.2.1 nb.2.2)).setCell ⟨g, j * 3 + 2, none⟩ (.bool true)) := by
  have hl : j < C.length := by rw [h.l]; exact hj
  have hat := h.at hj
  have hsz : b'.size ≤ 262144 := by
    have h1 := (h.dx.data hl).1
    have h2 : C[j]!.b = L[j].b := congrArg Fl.b hat
    rw [h2] at h1
    subst hbe
    have := Nat.mod_lt K (show 0 < L[j].b.size + 1 by omega)
    rw [ext_size _ (by omega)]
    omega
  have d1 := (h.dx.keep hW).setB hl hpg nb b' hb hsz
  have hl1 : j < (C.set j { C[j]! with bv := nb, b := b' }).length := by rw [List.length_set]; exact hl
  have d2 := d1.sure hl1 hpg
  have hm : ((C.set j { C[j]! with bv := nb, b := b' }).set j { (C.set j { C[j]! with bv := nb, b := b' })[j]! with sure := true }).map fl = (C.map fl).set j (crF K (fl L[j])) := by
    rw [getElem!_pos (C.set j { C[j]! with bv := nb, b := b' }) j hl1, List.getElem_set_self, List.set_set, List.map_set]
    congr 1
    unfold crF
    rw [if_neg (by show ¬ L[j].sure = true; rw [hs]; decide)]
    have h3 : C[j]!.path = L[j].path := congrArg Fl.path hat
    show (⟨C[j]!.path, b', true⟩ : Fl) = ⟨L[j].path, L[j].b.extract 0 (K % (L[j].b.size + 1)), true⟩
    rw [h3, hbe]
  refine ⟨?_, by rw [List.length_set, List.length_set]; exact h.l, ?_, ?_, ?_⟩
  · have e : ∀ {s1 s2 : St}, s1.fs = s2.fs → s1.most = s2.most → s1.off = s2.off → s1.bad = s2.bad → s1 = s2 := fun {s1 s2} e1 e2 e3 e4 => by
      cases s1; cases s2; simp at *; exact ⟨e1, e2, e3, e4⟩
    have := d2.f
    rw [show ({ s with fs := ((C.set j { C[j]! with bv := nb, b := b' }).set j { (C.set j { C[j]! with bv := nb, b := b' })[j]! with sure := true }).map fl } : St) = _ from e (s2 := { s with fs := setSure ((C.map fl).set j (fl { C[j]! with bv := nb, b := b' })) j }) this.symm rfl rfl rfl]
    exact d2
  · rw [hm, h.e, List.set_append_right _ _ (by simp; omega)]
    have hlen : (((L.take j).map fl).map (crF K)).length = j := by simp; omega
    rw [hlen, Nat.sub_self, List.drop_eq_getElem_cons hj, ← List.take_append_getElem hj, List.map_append, List.map_append, List.append_assoc]
    rfl
  · exact ((h.u.after hW).put (p := ⟨g, j * 3 + 1, none⟩) (.inl ⟨0, rfl⟩) _).put (p := ⟨g, j * 3 + 2, none⟩) (.inl ⟨0, rfl⟩) _
  · intro u hu k ad e
    rcases List.mem_or_eq_of_mem_set hu with t | t
    · rcases List.mem_or_eq_of_mem_set t with t | t
      · exact h.g u t k ad e
      · subst t; exact .inl (Nat.le_trans h.u.size (hn ad e))
    · rw [getElem!_pos (C.set j { C[j]! with bv := nb, b := b' }) j hl1, List.getElem_set_self] at t
      subst t; exact .inl (Nat.le_trans h.u.size (hn ad e))
theorem DcW.end {p : Nat} {a : Option Addr} {c : Nat} {L : List Fv} {q : Option Nat} {s : St} {K : Nat} {w : World} {C : List Fv} {wr : World} (h : DcW p a c L q s K w L.length C wr) : C.map fl = (L.map fl).map (crF K) := by
  rw [h.e, List.take_length, List.drop_length]; simp
theorem own_open {w : World} {base n c : Nat} {a : Option Addr} {f : Nat → Nat} (h : Own w base (.slice a n c) n f) (hf : ∀ i, f i < 256) : Row w a n f ∧ n ≤ c ∧ (a = none → n = 0 ∧ c = 0) := by
  rcases h.2 with ⟨e1, e2⟩ | ⟨g, cap, cur, e1, _, _, hnc, _⟩
  · have e2 : n = 0 := e2
    subst e2
    injection e1 with e1 _ e3
    exact ⟨Row.zero _ _ hf, Nat.zero_le _, fun _ => ⟨rfl, e3⟩⟩
  · injection e1 with e1 _ e3
    subst e1; subst e3
    refine ⟨?_, hnc, fun e => by cases e⟩
    by_cases k : 1 ≤ n
    · obtain ⟨a', c', e, hr⟩ := h.row k hf
      injection e with e1 _ e3
      rw [e1]
      exact hr.2.2.2
    · have : n = 0 := by omega
      subst this
      exact Row.zero _ _ hf
theorem cut_h2 {a : Option Addr} {n c : Nat} {f : Nat → Nat} {w : World} (h : Row w a n f) (m : Nat) (hm : m ≤ n) (hc : n ≤ c) :
    ∃ A, (∀ w', Sem.run Tryd.prog (Instr.slice 53 (.slice a n c) none (some (.int .i64 (m : Int))) none) w' = .ok (.slice A m c) w') ∧ Row w A m f ∧ (A = none → a = none) := by
  refine ⟨if c = 0 then a else a.map (·.add (0 * 1)), ?_, ?_, ?_⟩
  · intro w'
    rw [run_slice_h w' 53 a n c Tryd.underlying53 .i64 (m : Int) (by omega) (by omega)]
    have e : (sizeOf (Tryd.prog.elem 53)).run Tryd.prog w' = .ok 1 w' := by kernel_rfl
    rw [e]
    show Result.ok (sliced a _ _ c 1) w' = _
    unfold sliced
    rw [show ((m : Int)).toNat = m by omega, Nat.sub_zero, Nat.sub_zero]
  · rcases cut_row (c := c) h 0 m (by omega) with r | e
    · simpa using r
    · rw [if_pos e, show m = 0 by omega]
      exact Row.zero _ _ h.lt
  · intro e
    split at e
    · exact e
    · cases a with
      | none => rfl
      | some _ => cases e
end Go.Proofs.YtebngmgdciahiaaDoor

namespace Go.Proofs.YtebngmgdciahiaaDoor
open Go.RowKit
open _root_.Go.Proofs.YtebngmgdciahiaaDoor.Nm _root_.Go.Proofs.YtebngmgdciahiaaDoor.Dk
attribute [local go_sem ↓] Go.wp_at_zero Go.wp_at_succ
set_option linter.unusedVariables false

/-- A text's bytes as numbers. -/
def bf (b : ByteArray) (i : Nat) : Nat := ((tx b)[i]?.getD 0).toNat
theorem bf_lt (b : ByteArray) (i : Nat) : bf b i < 256 := UInt8.toNat_lt _
theorem bf_eq {f : Nat → Nat} {n : Nat} {b : ByteArray} (h : str f n = b) (hf : ∀ i, f i < 256) : ∀ i, i < n → f i = bf b i := fun i hi => by
  subst h
  unfold bf
  rw [str_tx, List.getElem?_map, List.getElem?_range hi]
  simp
  rw [Nat.mod_eq_of_lt (hf i)]
/-- The byte of a mask that is laid over the k-th. -/
def mbk (mask k : Nat) : Nat := mask / 2 ^ (8 * k) % 256
theorem mbk_lt (mask k : Nat) : mbk mask k < 256 := Nat.mod_lt _ (by decide)
/-- k bytes from t on are turned. -/
def fz (f : Nat → Nat) (t mask k : Nat) : Nat → Nat := fun i => if t ≤ i ∧ i < t + k then f i ^^^ mbk mask (i - t) else f i
theorem fz_lt {f : Nat → Nat} (hf : ∀ i, f i < 256) (t mask k : Nat) : ∀ i, fz f t mask k i < 256 := fun i => by
  unfold fz
  split
  · exact Nat.xor_lt_two_pow (n := 8) (hf i) (mbk_lt _ _)
  · exact hf i
theorem xor_mb (u mask k : Nat) (hu : u < 256) : bits .xor .u8 (u : Int) ((mask : Int) / 2 ^ (8 * k) % 256) = ((u ^^^ mbk mask k : Nat) : Int) := by
  have e : (mask : Int) / 2 ^ (8 * k) % 256 = ((mbk mask k : Nat) : Int) := by
    unfold mbk
    simp
  rw [e]
  exact u8_xor_nat u _ hu (mbk_lt _ _)
theorem fz_zero (f : Nat → Nat) (t mask : Nat) : fz f t mask 0 = f := by
  funext i
  unfold fz
  rw [if_neg (by omega)]
theorem fz_at (f : Nat → Nat) (t mask k : Nat) : fz f t mask k (t + k) = f (t + k) := by
  unfold fz
  rw [if_neg (by omega)]
theorem fz_step (f : Nat → Nat) (t mask k : Nat) : upd (fz f t mask k) (t + k) (f (t + k) ^^^ mbk mask k) = fz f t mask (k + 1) := by
  funext i
  unfold upd fz
  by_cases e : i = t + k
  · subst e
    rw [if_pos rfl, if_pos (by omega), show t + k - t = k by omega]
  · rw [if_neg e]
    by_cases h : t ≤ i ∧ i < t + k
    · rw [if_pos h, if_pos (by omega)]
    · rw [if_neg h, if_neg (by omega)]
def flB (b : ByteArray) (t mask : Nat) : ByteArray := str (fz (bf b) t mask (min 4 (b.size - t))) b.size
theorem str_size (f : Nat → Nat) (n : Nat) : (str f n).size = n := by
  have := congrArg List.length (str_tx f n)
  rw [tx_length] at this
  simpa using this
theorem flB_size (b : ByteArray) (t mask : Nat) : (flB b t mask).size = b.size := str_size _ _
theorem flB_of {f : Nat → Nat} {n : Nat} {b : ByteArray} (h : str f n = b) (hf : ∀ i, f i < 256) (hn : n = b.size) (t mask : Nat) : str (fz f t mask (min 4 (n - t))) n = flB b t mask := by
  unfold flB
  rw [← hn]
  refine str_congr fun i hi => ?_
  unfold fz
  rw [bf_eq h hf i hi]
/-- Is a byte there to be turned? -/
def flipT (x : ByteArray) (t : Int) (l : List Fl) : Bool := decide (0 ≤ t) && decide (t < ((fileL x l).b.size : Int))
def flipS (x : ByteArray) (t : Int) (mask : Nat) (l : List Fl) : List Fl := if flipT x t l = true then Dk.put l { fileL x l with b := flB (fileL x l).b t.toNat mask } else l
/-- A byte of a row of one's own is stored. -/
theorem own_set {w : World} {base g n c k x : Nat} {f : Nat → Nat} (h : Own w base (.slice (some ⟨g, 0, none⟩) n c) n f) (hk : k < n) : Own (w.setCell ⟨g, k, none⟩ (.int .u8 ((x : Nat) : Int))) base (.slice (some ⟨g, 0, none⟩) n c) n (upd f k x) := by
  rcases h with ⟨hl, ⟨e, _⟩ | ⟨g', cap, cur, e, hg, hh, hnc, hm, hs, ht⟩⟩
  · cases e
  · injection e with e1 e2 e3
    injection e1 with e1
    injection e1 with e1
    subst e1; subst e3
    refine ⟨by rw [bs_length, Nat.mul_one], .inr ⟨g, c, _, rfl, hg, heap_setCell_same w g k _ _ (.int .u8 ((x : Nat) : Int)) hh, hnc, hm, by rw [Array.size_setIfInBounds]; exact hs, ?_⟩⟩
    have hcl : cur.toList.length = c * 1 := by rw [Array.length_toList]; exact hs
    apply List.ext_getElem?
    intro i
    by_cases hi : i < n
    · rw [bs_at hi, List.getElem?_take, if_pos (by omega), Array.toList_setIfInBounds, List.getElem?_set]
      by_cases e : k = i
      · subst e
        rw [if_pos rfl, if_pos (by omega), upd_at]
      · rw [if_neg e, upd_ne _ _ (fun q => e q.symm)]
        have h9 : (cur.toList.take (n * 1))[i]? = some (.int .u8 ((f i : Nat) : Int)) := by rw [ht, bs_at hi]
        rw [List.getElem?_take, if_pos (by omega)] at h9
        exact h9
    · rw [List.getElem?_eq_none (by simp; omega), List.getElem?_eq_none (by rw [bs_length]; omega)]
theorem own_block {w : World} {base g n c : Nat} {f : Nat → Nat} (h : Own w base (.slice (some ⟨g, 0, none⟩) n c) n f) : base ≤ g ∧ ∃ cur, w.heap[g]? = some (.cells cur 5 (0, 0)) := by
  rcases h with ⟨hl, ⟨e, _⟩ | ⟨g', cap, cur, e, hg, hh, _⟩⟩
  · cases e
  · injection e with e1 _ _
    injection e1 with e1
    injection e1 with e1
    subst e1
    exact ⟨hg, cur, hh⟩
end Go.Proofs.YtebngmgdciahiaaDoor

namespace Go.Proofs.YtebngmgdciahiaaDoor
open Go.RowKit
open _root_.Go.Proofs.YtebngmgdciahiaaDoor.Nm _root_.Go.Proofs.YtebngmgdciahiaaDoor.Dk
attribute [local go_sem ↓] Go.wp_at_zero Go.wp_at_succ
set_option linter.unusedVariables false

/-- The blocks of a disk's rows of bytes. -/
def Bk (V : List Fv) : Nat → Prop := fun k => ∃ y ∈ V, 0 < y.b.size ∧ ∃ o, y.bv.1 = some ⟨k, o, none⟩
section
variable {w wr : World} {p m : Nat} {V : List Fv} {q : Option Nat} {s : St} {F : Int}
theorem PX.bk (h : PX w p m V q s F) {k : Nat} (hk : Bk V k) : ∃ cur, w.heap[k]? = some (.cells cur 5 (0, 0)) := by
  obtain ⟨y, hy, h0, o, e⟩ := hk
  obtain ⟨f, _, ho, _⟩ := (h.b y hy).r h0
  rcases ho with ⟨_, ⟨e1, _⟩ | ⟨g', cap, cur, e1, _, hh, _⟩⟩
  · injection e1 with e1 _ _
    rw [e] at e1; cases e1
  · injection e1 with e1 _ _
    rw [e] at e1
    injection e1 with e1
    injection e1 with e1
    subst e1
    exact ⟨cur, hh⟩
/-- A file whose row of bytes was turned in place. -/
theorem PX.turned (h : PX w p m V q s F) {x : ByteArray} {A B : List Fv} {f : Fv} (P : Part V x A [f] B) (h0 : 0 < f.b.size) {g : Nat} (hg : f.bv.1 = some ⟨g, 0, none⟩) {b' : ByteArray} (hs : b'.size = f.b.size) (u : Upd (fun k => k = g) w wr) (hb : PB wr { f with b := b' }) :
    PX wr p m (A ++ { f with b := b' } :: B) q { s with fs := Dk.put s.fs { fl f with b := b' } } F := by
  obtain ⟨fi, hfi⟩ : ∃ fi : Fv, fi = { f with b := b' } := ⟨_, rfl⟩
  rw [← hfi] at hb ⊢
  have hfm : f ∈ V := by rw [P.v]; simp
  have hfp : f.path = x := P.mp f (by simp)
  have hp : fi.path = x := by rw [hfi]; exact hfp
  have hbv : fi.bv = f.bv := by rw [hfi]
  have hsz : fi.b.size = f.b.size := by rw [hfi]; exact hs
  have hsu : fi.sure = f.sure := by rw [hfi]
  obtain ⟨cur, hcur⟩ := h.bk (k := g) ⟨f, hfm, h0, 0, hg⟩
  have hpg : p ≠ g := fun e => by
    subst e
    have := h.o
    rw [hcur] at this
    injection this with this
    injection this with _ this _
    exact absurd this (by decide)
  have hmg : ¬ m = g := fun e => by
    subst e
    obtain ⟨es, cl, hb, _⟩ := h.m
    rw [hb] at hcur
    injection hcur with hcur
    cases hcur
  have hin : ∀ y, y ∈ A ∨ y ∈ B → y ∈ V := fun y hy => by
    rw [P.v]
    rcases hy with k | k
    · exact List.mem_append_left _ (List.mem_append_left _ k)
    · exact List.mem_append_right _ k
  have hd := h.d
  rw [P.v, List.append_assoc] at hd
  obtain ⟨d1, d2, d3⟩ := List.pairwise_append.1 hd
  obtain ⟨d4, d5⟩ := List.pairwise_cons.1 d2
  have hoth : ∀ y, y ∈ A ∨ y ∈ B → PB wr y := fun y hy => by
    have hk := h.b y (hin y hy)
    refine ⟨hk.n, hk.c, hk.l, hk.z, fun k => ?_⟩
    obtain ⟨f9, r1, r2, r3⟩ := hk.r k
    refine ⟨f9, r1, ?_, r3⟩
    obtain ⟨g2, c2, e2, _⟩ := r2.row k r1
    have e3 : y.bv.1 = some ⟨g2, 0, none⟩ := by injection e2
    have hne : g2 ≠ g := fun e => by
      subst e
      rcases hy with t | t
      · exact d3 y t f (by simp) k h0 (e3.trans hg.symm)
      · exact d4 y t h0 k (hg.trans e3.symm)
    have e4 : y.bv.2.1 = y.b.size := hk.n
    rw [e4, e3] at r2 ⊢
    have hblk := own_block (f := f9) (by exact r2)
    obtain ⟨_, cur2, hc2⟩ := hblk
    exact own_at r2 (u.block g2 (Array.getElem?_eq_some_iff.1 hc2).1 hne)
  have hfs : Dk.put s.fs { fl f with b := b' } = (A ++ fi :: B).map fl := by
    rw [h.f]
    have e9 : ({ fl f with b := b' } : Fl) = fl fi := by rw [hfi]; rfl
    rw [e9, P.putD hp]
  have hus : used ((A ++ fi :: B).map fl) = used s.fs := by
    rw [used_mid, hsz, h.f, P.used]
    congr 1
  have hlen : (A ++ fi :: B).length = V.length := by rw [P.v]; simp
  rw [hfs]
  refine ⟨?_, ?_, fun y hy => ?_, rfl, ?_, P.riseP h.r hp, ?_, h.F0, h.F1⟩
  · rw [u.block p h.lt (fun e => hpg e), h.o, hus]
  · have e : DM (A ++ fi :: B) = DM V := by
      unfold DM
      rw [P.v]
      simp only [List.map_append, List.map_cons, List.append_assoc, List.cons_append, List.nil_append]
      congr 2
      unfold en vl
      rw [hp, hbv, hsu, ← hfp]
    rw [hlen, e]
    exact map_upd h.m u hmg
  · rcases List.mem_append.1 hy with k | k
    · exact hoth y (.inl k)
    · rcases List.mem_cons.1 k with k | k
      · rw [k]; exact hb
      · exact hoth y (.inr k)
  · have hm : ∀ u ∈ (A ++ fi :: B).map fl, ∃ v ∈ s.fs, u.path = v.path ∧ u.b.size = v.b.size := fun u hu => by
      obtain ⟨y, hy, rfl⟩ := List.mem_map.1 hu
      rw [h.f]
      rcases List.mem_append.1 hy with k | k
      · exact ⟨fl y, List.mem_map_of_mem (hin y (.inl k)), rfl, rfl⟩
      · rcases List.mem_cons.1 k with k | k
        · rw [k]
          exact ⟨fl f, List.mem_map_of_mem hfm, by show fi.path = f.path; rw [hp, hfp], hsz⟩
        · exact ⟨fl y, List.mem_map_of_mem (hin y (.inr k)), rfl, rfl⟩
    refine ⟨?_, fun u hu => ?_, fun u hu => ?_, h.wf.m0, h.wf.m1, h.wf.b0, h.wf.b1⟩
    · show ((A ++ fi :: B).map fl).length ≤ 4096
      rw [List.length_map, hlen]; exact h.n
    · obtain ⟨v, hv, _, e⟩ := hm u hu
      rw [e]; exact h.wf.b v hv
    · obtain ⟨v, hv, e, _⟩ := hm u hu
      rw [e]; exact h.wf.p v hv
  · refine List.pairwise_append.2 ⟨d1, List.pairwise_cons.2 ⟨fun y hy => ?_, d5⟩, fun y hy u hu => ?_⟩
    · intro k1 k2
      rw [hbv]
      exact d4 y hy (by rw [← hsz]; exact k1) k2
    · rcases List.mem_cons.1 hu with t | t
      · rw [t]
        intro k1 k2
        rw [hbv]
        exact d3 y hy f (by simp) k1 (by rw [← hsz]; exact k2)
      · exact d3 y hy u (List.mem_cons_of_mem _ t)
end
/-- Rows of bytes keep their length. -/
def SameB (w w' : World) : Prop := ∀ (k : Nat) (cur : Array Value), w.heap[k]? = some (.cells cur 5 (0, 0)) → ∃ cur' : Array Value, w'.heap[k]? = some (.cells cur' 5 (0, 0)) ∧ cur'.size = cur.size
theorem SameB.keep {w w' : World} (b : Below w.heap.size w w') : SameB w w' := fun k cur e => ⟨cur, (b.block k (Array.getElem?_eq_some_iff.1 e).1).trans e, rfl⟩
theorem own_cells {w : World} {base g n c : Nat} {f : Nat → Nat} (h : Own w base (.slice (some ⟨g, 0, none⟩) n c) n f) : ∃ cur, w.heap[g]? = some (.cells cur 5 (0, 0)) ∧ cur.size = c * 1 := by
  rcases h with ⟨hl, ⟨e, _⟩ | ⟨g', cap, cur, e, hg, hh, _, _, hs, _⟩⟩
  · cases e
  · injection e with e1 _ e3
    injection e1 with e1
    injection e1 with e1
    subst e1; subst e3
    exact ⟨cur, hh, hs⟩
set_option maxHeartbeats 8000000 in
theorem pflip_any (p m : Nat) (V : List Fv) (q : Option Nat) (s : St) (F : Int) (x : ByteArray) (t : Int) (mask : Nat) (w : World) (h : PX w p m V q s F) (hx : x.size ≤ maxLen) (ht0 : -9223372036854775808 ≤ t) (ht1 : t ≤ 9223372036854775807) (hm : mask < 4294967296) :
    Calls Tryd.prog 20 #[.pointer (some ⟨p, 0, none⟩), .string x, .int .i64 t, .int .u32 (mask : Int)] w fun e w' => e = .returned (.bool (flipT x t s.fs)) ∧ ∃ V', PX w' p m V' q { s with fs := flipS x t mask s.fs } F ∧ Upd (Bk V) w w' ∧ Gw w V V' ∧ SameB w w' := by
  obtain ⟨A, M, B, P⟩ := part_at h.r x
  have lk := (h.look P hx).2
  have d0 := h.c0
  obtain ⟨⟨ta, tn, tc⟩, htv⟩ : ∃ y : Option Addr × Nat × Nat, (top M).bv = y := ⟨_, rfl⟩
  obtain ⟨ts, hts'⟩ : ∃ ts, (top M).sure = ts := ⟨_, rfl⟩
  have htl : vl (top M) = .agg #[.slice ta tn tc, .bool ts] := by unfold vl; rw [htv, hts']
  rw [htl] at lk
  obtain ⟨hf1, _⟩ := P.fileL
  rw [← h.f] at hf1
  have hpb := h.topB P
  have hpn := hpb.n
  rw [htv] at hpn
  dsimp only at hpn
  have hsz := h.topS P
  obtain ⟨R, hR⟩ : ∃ R, flipT x t s.fs = R := ⟨_, rfl⟩
  obtain ⟨S, hS⟩ : ∃ S, flipS x t mask s.fs = S := ⟨_, rfl⟩
  rw [hR, hS]
  have hds := hS
  unfold flipS at hds
  rw [hR] at hds
  have HRT : Hid ((decide (0 ≤ t) && decide (t < (tn : Int))) = R) := by
    unfold Hid
    rw [← hR]
    unfold flipT
    rw [hf1, ← hpn]
  have HD : Hid (PX w p m V q s F) := h
  have HDS : Hid ((if R = true then Dk.put s.fs { fileL x s.fs with b := flB (fileL x s.fs).b t.toNat mask } else s.fs) = S) := hds
  have hmost := h.wf.n
  generalize hPP : (fun wr => ∃ V', PX wr p m V' q { s with fs := S } F ∧ Upd (Bk V) w wr ∧ Gw w V V' ∧ SameB w wr) = PP
  have HYES : Hid (∀ wr, (∃ V', PX wr p m V' q { s with fs := S } F ∧ Upd (Bk V) w wr ∧ Gw w V V' ∧ SameB w wr) → PP wr) := fun wr k => by rw [← hPP]; exact k
  have HNO : Hid (R = false → ∀ wr, Below w.heap.size w wr → PP wr) := fun e wr hb => HYES.out wr (by
    have h9 := HDS.out
    rw [e, if_neg (by decide)] at h9
    subst h9
    exact ⟨V, HD.out.keep hb, Upd.of hb, Gw.refl _ _, SameB.keep hb⟩)
  have hgoal : (fun (e : Ending) (w' : World) => e = .returned (.bool R) ∧ ∃ V', PX w' p m V' q { s with fs := S } F ∧ Upd (Bk V) w w' ∧ Gw w V V' ∧ SameB w w') = fun e w' => e = .returned (.bool R) ∧ PP w' := by rw [← hPP]
  rw [hgoal]
  have htn : tn ≤ 262144 := by omega
  have fld : ∀ (a : Option Addr) (n c : Nat) (b : Bool) (w' : World), Sem.run Tryd.prog (Instr.field 90 (.agg #[.slice a n c, .bool b]) 0) w' = .ok (.slice a n c) w' := fun _ _ _ _ _ => by rfl
  by_cases q0 : t < 0
  · have i0 : decide (t < 0) = true := decide_eq_true q0
    have HR : Hid (R = false) := by unfold Hid; rw [← HRT.out, decide_eq_false (by omega), Bool.false_and]
    clear h P htv hts' htl hf1 hpb hpn hsz hR hS hds hPP hgoal q0
    go_enter Tryd.func20, Tryd.ntmps20
    go_wp2
    go_ret
    exact ⟨by rw [HR.out] <;> rfl, HNO.out HR.out _ (Below.refl _ _)⟩
  have i0 : decide (t < 0) = false := decide_eq_false q0
  by_cases q1 : (tn : Int) ≤ t
  · have HR : Hid (R = false) := by unfold Hid; rw [← HRT.out, decide_eq_false (show ¬ t < (tn : Int) by omega), Bool.and_false]
    clear h P htv hts' htl hf1 hpb hpn hsz hR hS hds hPP hgoal q0
    go_enter Tryd.func20, Tryd.ntmps20
    go_wp2
    go_ret
    exact ⟨by rw [HR.out] <;> rfl, HNO.out HR.out _ (Below.refl _ _)⟩
  have i1 : decide ((tn : Int) ≤ t) = false := decide_eq_false q1
  obtain ⟨T, hT⟩ : ∃ T : Nat, t = (T : Int) := ⟨t.toNat, by omega⟩
  subst hT
  have hTn : T < tn := by omega
  have HR : Hid (R = true) := by unfold Hid; rw [← HRT.out, decide_eq_true (by omega), decide_eq_true (show (T : Int) < (tn : Int) by omega)]; rfl
  obtain ⟨f, hM, hfp⟩ : ∃ f, M = [f] ∧ f.path = x := by
    rcases P.m with ⟨_, e⟩ | ⟨_, f, e, hf⟩
    · subst e
      have : (top []).b.size = 0 := rfl
      omega
    · exact ⟨f, e, hf⟩
  subst hM
  have htop : top [f] = f := rfl
  rw [htop] at htv hts' hf1 hpb hpn hsz
  obtain ⟨fF, hf8, hown, hstr⟩ := hpb.r (by omega)
  rw [htv] at hown
  dsimp only at hown
  rw [← hpn] at hown hstr
  obtain ⟨g, c9, e9, _⟩ := hown.row (by omega) hf8
  injection e9 with e9 _ e8
  subst e9; subst e8
  have HO0 : Hid (Own w 0 (.slice (some ⟨g, 0, none⟩) tn tc) tn (fz fF T mask 0)) := by rw [fz_zero]; exact hown
  have HFT : Hid (∀ i, fF i < 256) := hf8
  have HFS : Hid (str fF tn = f.b ∧ tn = f.b.size ∧ f.bv = (some ⟨g, 0, none⟩, tn, tc) ∧ PB w f) := ⟨hstr, hpn, htv, hpb⟩
  have HP : Hid (Part V x A [f] B) := P
  have HFL : Hid (fileL x s.fs = fl f) := by
    unfold Hid
    have ht : there x (V.map fl) = true := by
      rcases P.m with ⟨_, e⟩ | ⟨t, _⟩
      · cases e
      · exact t
    unfold fileL
    rw [h.f, if_pos ht, P.fileAt ht]
    rfl
  obtain ⟨N, hN⟩ : ∃ N, min 4 (tn - T) = N := ⟨_, rfl⟩
  have HNN : Hid (min 4 (tn - T) = N) := hN
  have wS : IntKind.i64.wrap ((tn : Int) - (T : Int)) = ((tn - T : Nat) : Int) := by rw [IntKind.wrap_i64]; omega
  have mn1 : min (4 : Int) ((tn - T : Nat) : Int) = (N : Int) := by omega
  have mn2 : (if ((tn - T : Nat) : Int) < 4 then ((tn - T : Nat) : Int) else 4) = (N : Int) := by split <;> omega
  have mn3 : (if (4 : Int) < ((tn - T : Nat) : Int) then 4 else ((tn - T : Nat) : Int)) = (N : Int) := by split <;> omega
  clear h P htv hts' htl hf1 hpb hpn hsz hR hS hds hPP hgoal q0 q1 hfp htop hf8 hown hstr
  go_enter Tryd.func20, Tryd.ntmps20
  go_wp2_with fail
  go_loopw [33] (fun i wr => ∃ k : Nat, k ≤ N ∧ i = .int .i64 k ∧ Own wr 0 (.slice (some ⟨g, 0, none⟩) tn tc) tn (fz fF T mask k) ∧ Upd (fun i => i = g) w wr) (fun i _ => N - (intOf i).toNat)
  case atStart => exact ⟨0, Nat.zero_le _, rfl, HO0.out, Upd.refl _ _⟩
  case round =>
    obtain ⟨k, hk, rfl, hO, hU⟩ := hrel
    have HO : Hid (Own wr 0 (.slice (some ⟨g, 0, none⟩) tn tc) tn (fz fF T mask k)) := hO
    have HU : Hid (Upd (fun i => i = g) w wr) := hU
    by_cases hkN : k < N
    · have a1 : (k : Int) < (N : Int) := by omega
      have wA : IntKind.i64.wrap ((T : Int) + (k : Int)) = ((T + k : Nat) : Int) := by rw [IntKind.wrap_i64]; omega
      have a2 : ((T + k : Nat) : Int) < (tn : Int) := by omega
      have a3 : (T : Int) + (k : Int) < (tn : Int) := by omega
      have w8 : IntKind.i64.wrap (8 * (k : Int)) = ((8 * k : Nat) : Int) := by rw [IntKind.wrap_i64]; omega
      obtain ⟨hg9, cur9, hh9⟩ := own_block hO
      obtain ⟨b9, o9, e9, hr9⟩ := (own_open hO (fz_lt HFT.out T mask k)).1.lies (by omega)
      injection e9 with e9
      injection e9 with e1 e2 _
      have u0 := hr9 (T + k) (by omega)
      rw [← e1, ← e2, Nat.zero_add, fz_at] at u0
      have u1 := frozen_of_row wr g (T + k) _ _ hh9
      have HN : Hid (∀ W, W = (wr.drew).setCell ⟨g, T + k, none⟩ (.int .u8 (bits .xor .u8 ((fF (T + k) : Nat) : Int) ((mask : Int) / 2 ^ (8 * k) % 256))) → Own W 0 (.slice (some ⟨g, 0, none⟩) tn tc) tn (fz fF T mask (k + 1)) ∧ Upd (fun i => i = g) w W) := fun W e => by
        subst e
        rw [xor_mb _ _ _ (HFT.out _), ← fz_step]
        exact ⟨own_set (HO.out.keep (Below.refl _ _).drew) (by omega), (HU.out.drew).put (p := ⟨g, T + k, none⟩) (.inl rfl) _⟩
      clear hO hU hg9 hh9 hr9 e1 e2
      go_wp2_with fail
      go_region
      all_goals
        go_wp2
        refine ⟨⟨k + 1, by omega, by simp, (HN.out _ rfl).1, (HN.out _ rfl).2⟩, by simp [intOf]; omega⟩
    · have hkN' : k = N := by omega
      subst hkN'
      have a1 : decide ((k : Int) < (k : Int)) = false := by simp
      have HN : Hid (PP wr) := by
        have hsz : (flB f.b T mask).size = f.b.size := flB_size _ _ _
        have hpb : PB wr { f with b := flB f.b T mask } := by
          have h0 := HFS.out.2.2.2
          refine ⟨by show f.bv.2.1 = (flB f.b T mask).size; rw [hsz]; exact h0.n, by show (flB f.b T mask).size ≤ _; rw [hsz]; exact h0.c, h0.l, h0.z, fun _ => ⟨fz fF T mask k, fz_lt HFT.out T mask k, ?_, ?_⟩⟩
          · show Own wr 0 (.slice f.bv.1 f.bv.2.1 f.bv.2.2) (flB f.b T mask).size _
            rw [hsz, HFS.out.2.2.1, ← HFS.out.2.1]
            exact HO.out
          · show str _ (flB f.b T mask).size = flB f.b T mask
            rw [hsz, ← HFS.out.2.1, ← HNN.out]
            exact flB_of HFS.out.1 HFT.out HFS.out.2.1 T mask
        have hpos : 0 < f.b.size := by have := HFS.out.2.1; omega
        have hbv1 : f.bv.1 = some ⟨g, 0, none⟩ := by rw [HFS.out.2.2.1]
        have hP := HD.out.turned HP.out hpos hbv1 hsz HU.out hpb
        have hfm : f ∈ V := by rw [HP.out.v]; simp
        have hS : Dk.put s.fs { fl f with b := flB f.b T mask } = S := by
          have h9 := HDS.out
          rw [HR.out, if_pos rfl, HFL.out, show ((T : Int)).toNat = T by omega] at h9
          exact h9
        rw [hS] at hP
        refine HYES.out wr ⟨_, hP, HU.out.mono fun i _ e => ?_, fun u hu h0 ad e => .inr ?_, fun k9 cur9 e9 => ?_⟩
        · subst e; exact ⟨f, hfm, hpos, 0, hbv1⟩
        · rcases List.mem_append.1 hu with t | t
          · exact ⟨u, by rw [HP.out.v]; exact List.mem_append_left _ (List.mem_append_left _ t), h0, e⟩
          · rcases List.mem_cons.1 t with t | t
            · rw [t] at e
              exact ⟨f, hfm, hpos, e⟩
            · exact ⟨u, by rw [HP.out.v]; exact List.mem_append_right _ t, h0, e⟩
        · by_cases q : k9 = g
          · subst q
            obtain ⟨c1, e1, e2⟩ := own_cells HO0.out
            obtain ⟨c2, e3, e4⟩ := own_cells HO.out
            rw [e9] at e1
            injection e1 with e1
            injection e1 with e1 _ _
            exact ⟨c2, e3, by rw [e4, e1, e2]⟩
          · exact ⟨cur9, (HU.out.block k9 (Array.getElem?_eq_some_iff.1 e9).1 q).trans e9, rfl⟩
      clear hO hU
      go_wp2
      go_ret
      exact ⟨by rw [HR.out] <;> rfl, HN.out⟩
end Go.Proofs.YtebngmgdciahiaaDoor
