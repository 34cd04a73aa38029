/-
  Flip of the program's disk.
-/
import Derived.Test.YthkhkijdehbbmaaSdI
set_option maxRecDepth 100000
namespace Go.Proofs.Ythkhkijdehbbmaa
open Go.RowKit
open _root_.Go.Proofs.Ythkhkijdehbbmaa.Nm _root_.Go.Proofs.Ythkhkijdehbbmaa.Dk
attribute [local go_sem ↓] Go.wp_at_zero Go.wp_at_succ
set_option linter.unusedVariables false

/-- The blocks of a disk's rows of bytes. -/
def Bk (V : List Fv) : Nat → Prop := fun k => ∃ y ∈ V, 0 < y.b.size ∧ ∃ o, y.bv.1 = some ⟨k, o, none⟩
section
variable {w wr : World} {p m : Nat} {V : List Fv} {q : Option Nat} {s : St} {F : Int}
theorem PX.bk (h : PX w p m V q s F) {k : Nat} (hk : Bk V k) : ∃ cur, w.heap[k]? = some (.cells cur 5 (0, 0)) := by
  obtain ⟨y, hy, h0, o, e⟩ := hk
  obtain ⟨f, _, ho, _⟩ := (h.b y hy).r h0
  rcases ho with ⟨_, ⟨e1, _⟩ | ⟨g', cap, cur, e1, _, hh, _⟩⟩
  · injection e1 with e1 _ _
    rw [e] at e1; cases e1
  · injection e1 with e1 _ _
    rw [e] at e1
    injection e1 with e1
    injection e1 with e1
    subst e1
    exact ⟨cur, hh⟩
/-- A file whose row of bytes was turned in place. -/
theorem PX.turned (h : PX w p m V q s F) {x : ByteArray} {A B : List Fv} {f : Fv} (P : Part V x A [f] B) (h0 : 0 < f.b.size) {g : Nat} (hg : f.bv.1 = some ⟨g, 0, none⟩) {b' : ByteArray} (hs : b'.size = f.b.size) (u : Upd (fun k => k = g) w wr) (hb : PB wr { f with b := b' }) :
    PX wr p m (A ++ { f with b := b' } :: B) q { s with fs := Dk.put s.fs { fl f with b := b' } } F := by
  obtain ⟨fi, hfi⟩ : ∃ fi : Fv, fi = { f with b := b' } := ⟨_, rfl⟩
  rw [← hfi] at hb ⊢
  have hfm : f ∈ V := by rw [P.v]; simp
  have hfp : f.path = x := P.mp f (by simp)
  have hp : fi.path = x := by rw [hfi]; exact hfp
  have hbv : fi.bv = f.bv := by rw [hfi]
  have hsz : fi.b.size = f.b.size := by rw [hfi]; exact hs
  have hsu : fi.sure = f.sure := by rw [hfi]
  obtain ⟨cur, hcur⟩ := h.bk (k := g) ⟨f, hfm, h0, 0, hg⟩
  have hpg : p ≠ g := fun e => by
    subst e
    have := h.o
    rw [hcur] at this
    injection this with this
    injection this with _ this _
    exact absurd this (by decide)
  have hmg : ¬ m = g := fun e => by
    subst e
    obtain ⟨es, cl, hb, _⟩ := h.m
    rw [hb] at hcur
    injection hcur with hcur
    cases hcur
  have hin : ∀ y, y ∈ A ∨ y ∈ B → y ∈ V := fun y hy => by
    rw [P.v]
    rcases hy with k | k
    · exact List.mem_append_left _ (List.mem_append_left _ k)
    · exact List.mem_append_right _ k
  have hd := h.d
  rw [P.v, List.append_assoc] at hd
  obtain ⟨d1, d2, d3⟩ := List.pairwise_append.1 hd
  obtain ⟨d4, d5⟩ := List.pairwise_cons.1 d2
  have hoth : ∀ y, y ∈ A ∨ y ∈ B → PB wr y := fun y hy => by
    have hk := h.b y (hin y hy)
    refine ⟨hk.n, hk.c, hk.l, hk.z, fun k => ?_⟩
    obtain ⟨f9, r1, r2, r3⟩ := hk.r k
    refine ⟨f9, r1, ?_, r3⟩
    obtain ⟨g2, c2, e2, _⟩ := r2.row k r1
    have e3 : y.bv.1 = some ⟨g2, 0, none⟩ := by injection e2
    have hne : g2 ≠ g := fun e => by
      subst e
      rcases hy with t | t
      · exact d3 y t f (by simp) k h0 (e3.trans hg.symm)
      · exact d4 y t h0 k (hg.trans e3.symm)
    have e4 : y.bv.2.1 = y.b.size := hk.n
    rw [e4, e3] at r2 ⊢
    have hblk := own_block (f := f9) (by exact r2)
    obtain ⟨_, cur2, hc2⟩ := hblk
    exact own_at r2 (u.block g2 (Array.getElem?_eq_some_iff.1 hc2).1 hne)
  have hfs : Dk.put s.fs { fl f with b := b' } = (A ++ fi :: B).map fl := by
    rw [h.f]
    have e9 : ({ fl f with b := b' } : Fl) = fl fi := by rw [hfi]; rfl
    rw [e9, P.putD hp]
  have hus : used ((A ++ fi :: B).map fl) = used s.fs := by
    rw [used_mid, hsz, h.f, P.used]
    congr 1
  have hlen : (A ++ fi :: B).length = V.length := by rw [P.v]; simp
  rw [hfs]
  refine ⟨?_, ?_, fun y hy => ?_, rfl, ?_, P.riseP h.r hp, ?_, h.F0, h.F1⟩
  · rw [u.block p h.lt (fun e => hpg e), h.o, hus]
  · have e : DM (A ++ fi :: B) = DM V := by
      unfold DM
      rw [P.v]
      simp only [List.map_append, List.map_cons, List.append_assoc, List.cons_append, List.nil_append]
      congr 2
      unfold en vl
      rw [hp, hbv, hsu, ← hfp]
    rw [hlen, e]
    exact map_upd h.m u hmg
  · rcases List.mem_append.1 hy with k | k
    · exact hoth y (.inl k)
    · rcases List.mem_cons.1 k with k | k
      · rw [k]; exact hb
      · exact hoth y (.inr k)
  · have hm : ∀ u ∈ (A ++ fi :: B).map fl, ∃ v ∈ s.fs, u.path = v.path ∧ u.b.size = v.b.size := fun u hu => by
      obtain ⟨y, hy, rfl⟩ := List.mem_map.1 hu
      rw [h.f]
      rcases List.mem_append.1 hy with k | k
      · exact ⟨fl y, List.mem_map_of_mem (hin y (.inl k)), rfl, rfl⟩
      · rcases List.mem_cons.1 k with k | k
        · rw [k]
          exact ⟨fl f, List.mem_map_of_mem hfm, by show fi.path = f.path; rw [hp, hfp], hsz⟩
        · exact ⟨fl y, List.mem_map_of_mem (hin y (.inr k)), rfl, rfl⟩
    refine ⟨?_, fun u hu => ?_, fun u hu => ?_, h.wf.m0, h.wf.m1, h.wf.b0, h.wf.b1⟩
    · show ((A ++ fi :: B).map fl).length ≤ 4096
      rw [List.length_map, hlen]; exact h.n
    · obtain ⟨v, hv, _, e⟩ := hm u hu
      rw [e]; exact h.wf.b v hv
    · obtain ⟨v, hv, e, _⟩ := hm u hu
      rw [e]; exact h.wf.p v hv
  · refine List.pairwise_append.2 ⟨d1, List.pairwise_cons.2 ⟨fun y hy => ?_, d5⟩, fun y hy u hu => ?_⟩
    · intro k1 k2
      rw [hbv]
      exact d4 y hy (by rw [← hsz]; exact k1) k2
    · rcases List.mem_cons.1 hu with t | t
      · rw [t]
        intro k1 k2
        rw [hbv]
        exact d3 y hy f (by simp) k1 (by rw [← hsz]; exact k2)
      · exact d3 y hy u (List.mem_cons_of_mem _ t)
end
/-- Rows of bytes keep their length. -/
def SameB (w w' : World) : Prop := ∀ (k : Nat) (cur : Array Value), w.heap[k]? = some (.cells cur 5 (0, 0)) → ∃ cur' : Array Value, w'.heap[k]? = some (.cells cur' 5 (0, 0)) ∧ cur'.size = cur.size
theorem SameB.keep {w w' : World} (b : Below w.heap.size w w') : SameB w w' := fun k cur e => ⟨cur, (b.block k (Array.getElem?_eq_some_iff.1 e).1).trans e, rfl⟩
theorem own_cells {w : World} {base g n c : Nat} {f : Nat → Nat} (h : Own w base (.slice (some ⟨g, 0, none⟩) n c) n f) : ∃ cur, w.heap[g]? = some (.cells cur 5 (0, 0)) ∧ cur.size = c * 1 := by
  rcases h with ⟨hl, ⟨e, _⟩ | ⟨g', cap, cur, e, hg, hh, _, _, hs, _⟩⟩
  · cases e
  · injection e with e1 _ e3
    injection e1 with e1
    injection e1 with e1
    subst e1; subst e3
    exact ⟨cur, hh, hs⟩
set_option maxHeartbeats 8000000 in
theorem pflip_any (p m : Nat) (V : List Fv) (q : Option Nat) (s : St) (F : Int) (x : ByteArray) (t : Int) (mask : Nat) (w : World) (h : PX w p m V q s F) (hx : x.size ≤ maxLen) (ht0 : -9223372036854775808 ≤ t) (ht1 : t ≤ 9223372036854775807) (hm : mask < 4294967296) :
    Calls Try.prog 46 #[.pointer (some ⟨p, 0, none⟩), .string x, .int .i64 t, .int .u32 (mask : Int)] w fun e w' => e = .returned (.bool (flipT x t s.fs)) ∧ ∃ V', PX w' p m V' q { s with fs := flipS x t mask s.fs } F ∧ Upd (Bk V) w w' ∧ Gw w V V' ∧ SameB w w' := by
  obtain ⟨A, M, B, P⟩ := part_at h.r x
  have lk := (h.look P hx).2
  have d0 := h.c0
  obtain ⟨⟨ta, tn, tc⟩, htv⟩ : ∃ y : Option Addr × Nat × Nat, (top M).bv = y := ⟨_, rfl⟩
  obtain ⟨ts, hts'⟩ : ∃ ts, (top M).sure = ts := ⟨_, rfl⟩
  have htl : vl (top M) = .agg #[.slice ta tn tc, .bool ts] := by unfold vl; rw [htv, hts']
  rw [htl] at lk
  obtain ⟨hf1, _⟩ := P.fileL
  rw [← h.f] at hf1
  have hpb := h.topB P
  have hpn := hpb.n
  rw [htv] at hpn
  dsimp only at hpn
  have hsz := h.topS P
  obtain ⟨R, hR⟩ : ∃ R, flipT x t s.fs = R := ⟨_, rfl⟩
  obtain ⟨S, hS⟩ : ∃ S, flipS x t mask s.fs = S := ⟨_, rfl⟩
  rw [hR, hS]
  have hds := hS
  unfold flipS at hds
  rw [hR] at hds
  have HRT : Hid ((decide (0 ≤ t) && decide (t < (tn : Int))) = R) := by
    unfold Hid
    rw [← hR]
    unfold flipT
    rw [hf1, ← hpn]
  have HD : Hid (PX w p m V q s F) := h
  have HDS : Hid ((if R = true then Dk.put s.fs { fileL x s.fs with b := flB (fileL x s.fs).b t.toNat mask } else s.fs) = S) := hds
  have hmost := h.wf.n
  generalize hPP : (fun wr => ∃ V', PX wr p m V' q { s with fs := S } F ∧ Upd (Bk V) w wr ∧ Gw w V V' ∧ SameB w wr) = PP
  have HYES : Hid (∀ wr, (∃ V', PX wr p m V' q { s with fs := S } F ∧ Upd (Bk V) w wr ∧ Gw w V V' ∧ SameB w wr) → PP wr) := fun wr k => by rw [← hPP]; exact k
  have HNO : Hid (R = false → ∀ wr, Below w.heap.size w wr → PP wr) := fun e wr hb => HYES.out wr (by
    have h9 := HDS.out
    rw [e, if_neg (by decide)] at h9
    subst h9
    exact ⟨V, HD.out.keep hb, Upd.of hb, Gw.refl _ _, SameB.keep hb⟩)
  have hgoal : (fun (e : Ending) (w' : World) => e = .returned (.bool R) ∧ ∃ V', PX w' p m V' q { s with fs := S } F ∧ Upd (Bk V) w w' ∧ Gw w V V' ∧ SameB w w') = fun e w' => e = .returned (.bool R) ∧ PP w' := by rw [← hPP]
  rw [hgoal]
  have htn : tn ≤ 262144 := by omega
  have fld : ∀ (a : Option Addr) (n c : Nat) (b : Bool) (w' : World), Sem.run Try.prog (Instr.field 74 (.agg #[.slice a n c, .bool b]) 0) w' = .ok (.slice a n c) w' := fun _ _ _ _ _ => by rfl
  by_cases q0 : t < 0
  · have i0 : decide (t < 0) = true := decide_eq_true q0
    have HR : Hid (R = false) := by unfold Hid; rw [← HRT.out, decide_eq_false (by omega), Bool.false_and]
    clear h P htv hts' htl hf1 hpb hpn hsz hR hS hds hPP hgoal q0
    go_enter Try.func46, Try.ntmps46
    go_wp2
    go_ret
    exact ⟨by rw [HR.out] <;> rfl, HNO.out HR.out _ (Below.refl _ _)⟩
  have i0 : decide (t < 0) = false := decide_eq_false q0
  by_cases q1 : (tn : Int) ≤ t
  · have HR : Hid (R = false) := by unfold Hid; rw [← HRT.out, decide_eq_false (show ¬ t < (tn : Int) by omega), Bool.and_false]
    clear h P htv hts' htl hf1 hpb hpn hsz hR hS hds hPP hgoal q0
    go_enter Try.func46, Try.ntmps46
    go_wp2
    go_ret
    exact ⟨by rw [HR.out] <;> rfl, HNO.out HR.out _ (Below.refl _ _)⟩
  have i1 : decide ((tn : Int) ≤ t) = false := decide_eq_false q1
  obtain ⟨T, hT⟩ : ∃ T : Nat, t = (T : Int) := ⟨t.toNat, by omega⟩
  subst hT
  have hTn : T < tn := by omega
  have HR : Hid (R = true) := by unfold Hid; rw [← HRT.out, decide_eq_true (by omega), decide_eq_true (show (T : Int) < (tn : Int) by omega)]; rfl
  obtain ⟨f, hM, hfp⟩ : ∃ f, M = [f] ∧ f.path = x := by
    rcases P.m with ⟨_, e⟩ | ⟨_, f, e, hf⟩
    · subst e
      have : (top []).b.size = 0 := rfl
      omega
    · exact ⟨f, e, hf⟩
  subst hM
  have htop : top [f] = f := rfl
  rw [htop] at htv hts' hf1 hpb hpn hsz
  obtain ⟨fF, hf8, hown, hstr⟩ := hpb.r (by omega)
  rw [htv] at hown
  dsimp only at hown
  rw [← hpn] at hown hstr
  obtain ⟨g, c9, e9, _⟩ := hown.row (by omega) hf8
  injection e9 with e9 _ e8
  subst e9; subst e8
  have HO0 : Hid (Own w 0 (.slice (some ⟨g, 0, none⟩) tn tc) tn (fz fF T mask 0)) := by rw [fz_zero]; exact hown
  have HFT : Hid (∀ i, fF i < 256) := hf8
  have HFS : Hid (str fF tn = f.b ∧ tn = f.b.size ∧ f.bv = (some ⟨g, 0, none⟩, tn, tc) ∧ PB w f) := ⟨hstr, hpn, htv, hpb⟩
  have HP : Hid (Part V x A [f] B) := P
  have HFL : Hid (fileL x s.fs = fl f) := by
    unfold Hid
    have ht : there x (V.map fl) = true := by
      rcases P.m with ⟨_, e⟩ | ⟨t, _⟩
      · cases e
      · exact t
    unfold fileL
    rw [h.f, if_pos ht, P.fileAt ht]
    rfl
  obtain ⟨N, hN⟩ : ∃ N, min 4 (tn - T) = N := ⟨_, rfl⟩
  have HNN : Hid (min 4 (tn - T) = N) := hN
  have wS : IntKind.i64.wrap ((tn : Int) - (T : Int)) = ((tn - T : Nat) : Int) := by rw [IntKind.wrap_i64]; omega
  have mn1 : min (4 : Int) ((tn - T : Nat) : Int) = (N : Int) := by omega
  have mn2 : (if ((tn - T : Nat) : Int) < 4 then ((tn - T : Nat) : Int) else 4) = (N : Int) := by split <;> omega
  have mn3 : (if (4 : Int) < ((tn - T : Nat) : Int) then 4 else ((tn - T : Nat) : Int)) = (N : Int) := by split <;> omega
  clear h P htv hts' htl hf1 hpb hpn hsz hR hS hds hPP hgoal q0 q1 hfp htop hf8 hown hstr
  go_enter Try.func46, Try.ntmps46
  go_wp2_with fail
  go_loopw [33] (fun i wr => ∃ k : Nat, k ≤ N ∧ i = .int .i64 k ∧ Own wr 0 (.slice (some ⟨g, 0, none⟩) tn tc) tn (fz fF T mask k) ∧ Upd (fun i => i = g) w wr) (fun i _ => N - (intOf i).toNat)
  case atStart => exact ⟨0, Nat.zero_le _, rfl, HO0.out, Upd.refl _ _⟩
  case round =>
    obtain ⟨k, hk, rfl, hO, hU⟩ := hrel
    have HO : Hid (Own wr 0 (.slice (some ⟨g, 0, none⟩) tn tc) tn (fz fF T mask k)) := hO
    have HU : Hid (Upd (fun i => i = g) w wr) := hU
    by_cases hkN : k < N
    · have a1 : (k : Int) < (N : Int) := by omega
      have wA : IntKind.i64.wrap ((T : Int) + (k : Int)) = ((T + k : Nat) : Int) := by rw [IntKind.wrap_i64]; omega
      have a2 : ((T + k : Nat) : Int) < (tn : Int) := by omega
      have a3 : (T : Int) + (k : Int) < (tn : Int) := by omega
      have w8 : IntKind.i64.wrap (8 * (k : Int)) = ((8 * k : Nat) : Int) := by rw [IntKind.wrap_i64]; omega
      obtain ⟨hg9, cur9, hh9⟩ := own_block hO
      obtain ⟨b9, o9, e9, hr9⟩ := (own_open hO (fz_lt HFT.out T mask k)).1.lies (by omega)
      injection e9 with e9
      injection e9 with e1 e2 _
      have u0 := hr9 (T + k) (by omega)
      rw [← e1, ← e2, Nat.zero_add, fz_at] at u0
      have u1 := frozen_of_row wr g (T + k) _ _ hh9
      have HN : Hid (∀ W, W = (wr.drew).setCell ⟨g, T + k, none⟩ (.int .u8 (bits .xor .u8 ((fF (T + k) : Nat) : Int) ((mask : Int) / 2 ^ (8 * k) % 256))) → Own W 0 (.slice (some ⟨g, 0, none⟩) tn tc) tn (fz fF T mask (k + 1)) ∧ Upd (fun i => i = g) w W) := fun W e => by
        subst e
        rw [xor_mb _ _ _ (HFT.out _), ← fz_step]
        exact ⟨own_set (HO.out.keep (Below.refl _ _).drew) (by omega), (HU.out.drew).put (p := ⟨g, T + k, none⟩) (.inl rfl) _⟩
      clear hO hU hg9 hh9 hr9 e1 e2
      go_wp2_with fail
      go_region
      all_goals
        go_wp2
        refine ⟨⟨k + 1, by omega, by simp, (HN.out _ rfl).1, (HN.out _ rfl).2⟩, by simp [intOf]; omega⟩
    · have hkN' : k = N := by omega
      subst hkN'
      have a1 : decide ((k : Int) < (k : Int)) = false := by simp
      have HN : Hid (PP wr) := by
        have hsz : (flB f.b T mask).size = f.b.size := flB_size _ _ _
        have hpb : PB wr { f with b := flB f.b T mask } := by
          have h0 := HFS.out.2.2.2
          refine ⟨by show f.bv.2.1 = (flB f.b T mask).size; rw [hsz]; exact h0.n, by show (flB f.b T mask).size ≤ _; rw [hsz]; exact h0.c, h0.l, h0.z, fun _ => ⟨fz fF T mask k, fz_lt HFT.out T mask k, ?_, ?_⟩⟩
          · show Own wr 0 (.slice f.bv.1 f.bv.2.1 f.bv.2.2) (flB f.b T mask).size _
            rw [hsz, HFS.out.2.2.1, ← HFS.out.2.1]
            exact HO.out
          · show str _ (flB f.b T mask).size = flB f.b T mask
            rw [hsz, ← HFS.out.2.1, ← HNN.out]
            exact flB_of HFS.out.1 HFT.out HFS.out.2.1 T mask
        have hpos : 0 < f.b.size := by have := HFS.out.2.1; omega
        have hbv1 : f.bv.1 = some ⟨g, 0, none⟩ := by rw [HFS.out.2.2.1]
        have hP := HD.out.turned HP.out hpos hbv1 hsz HU.out hpb
        have hfm : f ∈ V := by rw [HP.out.v]; simp
        have hS : Dk.put s.fs { fl f with b := flB f.b T mask } = S := by
          have h9 := HDS.out
          rw [HR.out, if_pos rfl, HFL.out, show ((T : Int)).toNat = T by omega] at h9
          exact h9
        rw [hS] at hP
        refine HYES.out wr ⟨_, hP, HU.out.mono fun i _ e => ?_, fun u hu h0 ad e => .inr ?_, fun k9 cur9 e9 => ?_⟩
        · subst e; exact ⟨f, hfm, hpos, 0, hbv1⟩
        · rcases List.mem_append.1 hu with t | t
          · exact ⟨u, by rw [HP.out.v]; exact List.mem_append_left _ (List.mem_append_left _ t), h0, e⟩
          · rcases List.mem_cons.1 t with t | t
            · rw [t] at e
              exact ⟨f, hfm, hpos, e⟩
            · exact ⟨u, by rw [HP.out.v]; exact List.mem_append_right _ t, h0, e⟩
        · by_cases q : k9 = g
          · subst q
            obtain ⟨c1, e1, e2⟩ := own_cells HO0.out
            obtain ⟨c2, e3, e4⟩ := own_cells HO.out
            rw [e9] at e1
            injection e1 with e1
            injection e1 with e1 _ _
            exact ⟨c2, e3, by rw [e4, e1, e2]⟩
          · exact ⟨cur9, (HU.out.block k9 (Array.getElem?_eq_some_iff.1 e9).1 q).trans e9, rfl⟩
      clear hO hU
      go_wp2
      go_ret
      exact ⟨by rw [HR.out] <;> rfl, HN.out⟩
end Go.Proofs.Ythkhkijdehbbmaa
