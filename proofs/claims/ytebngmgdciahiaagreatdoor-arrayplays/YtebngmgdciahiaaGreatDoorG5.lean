/-
  Texts of earlier stages, one behind the other: SmK, SmL, SmN, SmO.
-/
import Derived.Test.YtebngmgdciahiaaGreatDoorG4
set_option maxRecDepth 100000
namespace Go.Proofs.YtebngmgdciahiaaGreatDoor
open Go.RowKit
open _root_.Go.Proofs.YtebngmgdciahiaaGreatDoor.Nm _root_.Go.Proofs.YtebngmgdciahiaaGreatDoor.Dk
attribute [local go_sem ↓] Go.wp_at_zero Go.wp_at_succ
set_option linter.unusedVariables false

/-- A row of bytes that is handed in. -/
structure Inp (w : World) (a : Option Addr) (n c : Nat) (b : ByteArray) : Prop where
  r : ∃ f, (∀ i, f i < 256) ∧ Row w a n f ∧ str f n = b
  len : n = b.size
  z : a = none → n = 0 ∧ c = 0
theorem Inp.keep {w w' : World} {a : Option Addr} {n c : Nat} {b : ByteArray} (h : Inp w a n c b) (k : Below w.heap.size w w') : Inp w' a n c b := by
  obtain ⟨f, h1, h2, h3⟩ := h.r
  exact ⟨⟨f, h1, h2.keep k, h3⟩, h.len, h.z⟩
theorem Inp.upd {M : Nat → Prop} {w w' : World} {a : Option Addr} {n c : Nat} {b : ByteArray} (h : Inp w a n c b) (u : Upd M w w') (hm : ∀ k o v, M k → w.cell? ⟨k, o, none⟩ ≠ some (.int .u8 v)) : Inp w' a n c b := by
  obtain ⟨f, h1, h2, h3⟩ := h.r
  refine ⟨⟨f, h1, ⟨h2.1, fun hn => ?_⟩, h3⟩, h.len, h.z⟩
  obtain ⟨k, o, e, hc⟩ := h2.2 hn
  refine ⟨k, o, e, fun i hi => ?_⟩
  have := hc i hi
  rw [← this]
  exact World.cell?_of_block (w := w) (u.block k (block_lt_of_cell this) fun q => hm k (o + i) _ q this)
def oldN (s : St) (x : ByteArray) : Nat := if there x s.fs = true then (dataAt x s.fs).size else 0
def full (s : St) (x b : ByteArray) : Bool := decide (s.most < ((used s.fs : Nat) : Int) + ((b.size : Nat) : Int) - ((oldN s x : Nat) : Int)) || (!there x s.fs && decide (4096 ≤ s.fs.length))
/-- What Write answers, and leaves. -/
def wriZ (z : Option Fz) (s : St) (x b : ByteArray) : Int × St :=
  if (askZ z s [x]).1 ≠ 0 then ((askZ z s [x]).1, (askZ z s [x]).2.2) else if 262144 < b.size then (3, (askZ z s [x]).2.2) else if full s x b = true then (8, (askZ z s [x]).2.2) else (0, { (askZ z s [x]).2.2 with fs := Dk.put s.fs ⟨x, b, false⟩ })
theorem askD_most (s : St) (ps : List ByteArray) : (askD s ps).2.most = s.most := by
  unfold askD
  split
  · rfl
  · split
    · rfl
    · split <;> rfl
theorem askZ_most (z : Option Fz) (s : St) (ps : List ByteArray) : (askZ z s ps).2.2.most = s.most := by
  cases z with
  | none => exact askD_most s ps
  | some z =>
    unfold askZ
    dsimp only
    split
    · rfl
    · exact askD_most s ps
theorem drewN_two (w : World) (a b : Nat) : (w.drewN a).drewN b = w.drewN (a + b) := by simp
theorem PB.lt {w : World} {x : Fv} (h : PB w x) (k : 0 < x.b.size) {a : Addr} (e : x.bv.1 = some a) : a.block < w.heap.size := by
  obtain ⟨f, h2, h3, h4⟩ := h.r k
  rcases h3.2 with ⟨e1, e2⟩ | ⟨g, cap, cur, e1, hg, hh, _⟩
  · omega
  · injection e1 with e1 _ _
    rw [e] at e1
    injection e1 with e1
    rw [e1]
    exact (Array.getElem?_eq_some_iff.1 hh).1
theorem fs_same {w : World} {p m : Nat} {V : List Fv} {q : Option Nat} {s : St} {F : Int} (h : PX w p m V q s F) {x : ByteArray} {A M B : List Fv} (P : Part V x A M B) : oldN s x = (top M).b.size := by
  unfold oldN
  rw [h.f]
  cases t : there x (V.map fl) with
  | true => rw [if_pos rfl, P.dataAt t]
  | false => rw [if_neg (by decide), top_none P t]; rfl
theorem map_block {w : World} {p m : Nat} {V : List Fv} {q : Option Nat} {s : St} {F : Int} (h : PX w p m V q s F) : ∃ es clock, w.heap[m]? = some (.map es clock) ∧ es.size = V.length := by
  obtain ⟨es, clock, hb, F', hs, e⟩ := h.m
  refine ⟨es, clock, hb, ?_⟩
  have := congrArg Maps.size e
  rw [dm_size] at this
  rw [this]
  simp [Maps.size, length_sorted]
theorem askZ_ok {z : Option Fz} {s : St} {x : ByteArray} (h : (askZ z s [x]).1 = 0) : 1 ≤ x.size ∧ x.size ≤ 600 := by
  have hD : ∀ s, (askD s [x]).1 = 0 → okPath x = true := fun s h => by
    unfold askD at h
    split at h
    · cases h
    · split at h
      · cases h
      · split at h
        · next e => simpa using e
        · cases h
  have : okPath x = true := by
    cases z with
    | none => exact hD s h
    | some z =>
      unfold askZ at h
      dsimp only at h
      split at h
      · cases h
      · exact hD s h
  exact okPath_iff.1 this
set_option maxHeartbeats 8000000 in
theorem pwrite_any (p m : Nat) (V : List Fv) (q : Option Nat) (s : St) (F : Int) (z : Option Fz) (x : ByteArray) (a : Option Addr) (n c : Nat) (b : ByteArray) (w : World) (h : PX w p m V q s F) (hz : FZ w q z) (hb : Zb z) (hx : x.size ≤ maxLen) (hi : Inp w a n c b) (hnl : n ≤ maxLen) :
    Calls Tryz.prog 61 #[.pointer (some ⟨p, 0, none⟩), .string x, .slice a n c] w (POp p m V q (wriZ z s x b).1 (wriZ z s x b).2 (askZ z s [x]).2.1 w) := by
  obtain ⟨A, M, B, P⟩ := part_at h.r x
  obtain ⟨W, hW⟩ : ∃ W, w.alloc (.cells #[.string x] 9) = W := ⟨_, rfl⟩
  have bW : Below w.heap.size w W := by rw [← hW]; exact bal _ _
  have hS : Strs W (some ⟨w.heap.size, 0, none⟩) [x] := by rw [← hW]; exact strs1 w x
  have cA := pask_any p m V q s F z (some ⟨w.heap.size, 0, none⟩) 1 [x] W (h.keep bW) (hz.keep bW) hb hS (by show 1 ≤ 1000; omega)
  have hs := h.f
  have hfs : (askZ z s [x]).2.2.fs = s.fs := askZ_fs z s [x]
  have hmost : (askZ z s [x]).2.2.most = s.most := askZ_most z s [x]
  obtain ⟨WZ, hWZ⟩ : ∃ y, wriZ z s x b = y := ⟨_, rfl⟩
  have hdef := hWZ
  unfold wriZ at hdef
  have hok := fun k => askZ_ok (z := z) (s := s) (x := x) k
  rw [hWZ]
  obtain ⟨e0, he0⟩ : ∃ e0, (askZ z s [x]).1 = e0 := ⟨_, rfl⟩
  obtain ⟨s1, hs1⟩ : ∃ s1, (askZ z s [x]).2.2 = s1 := ⟨_, rfl⟩
  obtain ⟨z1, hz1⟩ : ∃ z1, (askZ z s [x]).2.1 = z1 := ⟨_, rfl⟩
  rw [he0, hs1, hz1] at cA
  rw [he0, hs1] at hdef
  rw [hs1] at hfs hmost
  rw [he0] at hok
  rw [hz1]
  have hold := fs_same h P
  have HP : Hid (Part V x A M B) := P
  have HI : Hid (∀ w', Upd (Mk p q) w w' → Inp w' a n c b) := fun w' u => hi.upd u fun k o v hk => by
    rcases hk with rfl | hk
    · intro e
      rw [cell_of_row w k o _ _ _ h.o] at e
      match o, e with
      | 0, e => simp at e
      | 1, e => simp at e
      | 2, e => simp at e
      | 3, e => simp at e
      | 4, e => simp at e
      | 5, e => simp at e
      | o + 6, e => simp at e
    · subst hk
      intro e
      cases z with
      | none => exact absurd hz (by unfold FZ; exact id)
      | some z =>
        rw [cell_of_row w k o _ _ _ hz.1] at e
        match o, e with
        | 0, e => simp at e
        | 1, e => simp at e
        | o + 2, e => simp at e
  have hbn := hi.len
  have HT0 : Hid (∀ d w' F', WZ = (d, s1) → PX w' p m V q s1 F' → FZ w' q z1 → Upd (Mk p q) w w' → POp p m V q WZ.1 WZ.2 z1 w (.returned (.int .i64 d)) w') := fun d w' F' h0 h1 h2 h3 => by subst h0; exact ⟨rfl, V, F', h1, h2, h3.mono fun k _ e => mk_ms e, Gw.sub fun y hy => hy⟩
  have HT1 : Hid (∀ w' F' V', WZ = (0, { s1 with fs := V'.map fl }) → PX w' p m V' q { s1 with fs := V'.map fl } F' → FZ w' q z1 → Upd (Ms p m q) w w' → Gw w V V' → POp p m V q WZ.1 WZ.2 z1 w (.returned (.int .i64 0)) w') := fun w' F' V' h0 h1 h2 h3 h4 => by subst h0; exact ⟨rfl, V', F', h1, h2, h3, h4⟩
  generalize hPP : POp p m V q WZ.1 WZ.2 z1 w = PP at *
  have HDF : Hid ((if e0 ≠ 0 then (e0, s1) else if 262144 < b.size then (3, s1) else if full s x b = true then (8, s1) else (0, { s1 with fs := Dk.put s.fs ⟨x, b, false⟩ })) = WZ) := hdef
  have HFS : Hid (s1.fs = s.fs ∧ s1.most = s.most ∧ s.fs = V.map fl) := ⟨hfs, hmost, hs⟩
  have HOK : Hid (e0 = 0 → 1 ≤ x.size ∧ x.size ≤ 600) := hok
  have HX : Hid (x.size ≤ maxLen) := hx
  have HOLD : Hid (oldN s x = (top M).b.size) := hold
  have HBW : Hid (Below w.heap.size w W) := bW
  have HNB : Hid (n = b.size) := hbn
  have cA1 : Calls Tryz.prog 93 #[.pointer (some ⟨p, 0, none⟩), .slice (some ⟨w.heap.size, 0, none⟩) 1 1] W (PAsk p m V q e0 s1 z1 W) := cA
  clear h hz hb hx hi P bW hS cA hs hfs hmost hWZ hdef hok he0 hs1 hz1 hold hPP hbn
  go_enter Tryz.func61, Tryz.ntmps61
  go_wp2_with fail
  go_at_call 93
  refine cA1.mono ?_
  rintro e w1 ⟨rfl, F1, h1, hz1, u1⟩
  have HD1 : Hid (PX w1 p m V q s1 F1) := h1
  have HZ1 : Hid (FZ w1 q z1) := hz1
  have HU1 : Hid (Upd (Mk p q) w w1) := (Upd.of HBW.out).trans u1
  clear cA1 hz1 u1 hW
  by_cases k0 : e0 = 0
  · subst k0
    by_cases kl : 262144 < n
    · have g1 : (262144 : Int) < (n : Int) := by omega
      have HE : Hid (WZ = (3, s1)) := by unfold Hid; rw [← HDF.out, if_neg (fun k => k rfl), if_pos (by rw [← HNB.out]; exact kl)]
      clear h1 kl
      go_wp2
      exact HT0.out 3 _ F1 HE.out HD1.out HZ1.out HU1.out
    · have g1 : decide ((262144 : Int) < (n : Int)) = false := decide_eq_false (by omega)
      have HKL : Hid (n ≤ 262144) := by unfold Hid; omega
      have lk := (h1.look HP.out HX.out).1
      have d0 := h1.c0
      obtain ⟨⟨ta, tn, tc⟩, htv⟩ : ∃ y : Option Addr × Nat × Nat, (top M).bv = y := ⟨_, rfl⟩
      obtain ⟨ts, hts'⟩ : ∃ ts, (top M).sure = ts := ⟨_, rfl⟩
      have htl : vl (top M) = .agg #[.slice ta tn tc, .bool ts] := by unfold vl; rw [htv, hts']
      have htn : tn = (top M).b.size := by have := (h1.topB HP.out).n; rw [htv] at this; exact this
      have htS := h1.topS HP.out
      rw [htl] at lk
      obtain ⟨T, hT⟩ : ∃ T, there x s1.fs = T := ⟨_, rfl⟩
      rw [hT] at lk
      obtain ⟨w2, hw2⟩ : ∃ w2, w1.alloc (.cells #[.slice ta tn tc, .bool ts] 106) = w2 := ⟨_, rfl⟩
      have b2 : Below w1.heap.size w1 w2 := by rw [← hw2]; exact bal _ _
      have x0 : w2.cell? ⟨w1.heap.size, 0, none⟩ = some (.slice ta tn tc) := by rw [← hw2]; simp
      have h2 := h1.keep b2
      have e0' := h2.c0
      obtain ⟨es, clock, hmb, hes⟩ := map_block h2
      have cR := fun n => room_pany p m V q s1 F1 (w2.drewN n) (h2.drewN n)
      have hus := h2.used_le
      have hm0 := h2.wf.m0
      have hm1 := h2.wf.m1
      have hvn := h2.n
      obtain ⟨RM, hRM⟩ : ∃ RM, s1.most - ((used s1.fs : Nat) : Int) = RM := ⟨_, rfl⟩
      rw [hRM] at cR
      have wz : IntKind.i64.wrap ((n : Int) - (tn : Int)) = (n : Int) - (tn : Int) := by rw [IntKind.wrap_i64]; omega
      have HFULL : Hid (full s x b = (decide (RM < (n : Int) - (tn : Int)) || (!T && decide ((4096 : Int) ≤ (es.size : Int))))) := by
        unfold Hid full
        rw [HOLD.out, ← htn, ← HNB.out, ← HFS.out.2.1, ← HFS.out.1, hT, hes]
        congr 1
        · exact decide_eq_decide.2 (by omega)
        · congr 1
          rw [HFS.out.1, HFS.out.2.2, List.length_map]
          exact decide_eq_decide.2 (by omega)
      have mlen : ∀ nq ty, (Builtin.len_ #[107] ty #[.map (some m)]).run Tryz.prog (w2.drewN nq) = .ok (.int .i64 (es.size : Int)) (w2.drewN nq) := fun nq ty => by rw [hes]; exact (h2.drewN nq).len ty
      have HB2 : Hid (Below w1.heap.size w1 w2) := b2
      have HES : Hid (es.size = V.length) := hes
      have HTH : Hid (there x s1.fs = T) := hT
      -- what goes on behind the test
      have GO : full s x b = false → ∀ nq, Hid (Calls Tryz.prog 45 #[.slice a n c] (w2.drewN nq) fun e w3 => ∃ bv : Option Addr × Nat × Nat, e = .returned (.slice bv.1 bv.2.1 bv.2.2) ∧ Hid (Calls Tryz.prog 44 #[.pointer (some ⟨p, 0, none⟩), .string x, .agg #[.slice bv.1 bv.2.1 bv.2.2, .bool false]] w3 fun e w4 => e = .returned (.tuple #[]) ∧ Hid (PP (.returned (.int .i64 0)) w4))) := by
        intro hful nq
        have hI2 := ((HI.out w1 HU1.out).keep b2).keep (bdn' w2 nq)
        obtain ⟨f, hf, hr, hst⟩ := hI2.r
        refine (clone_any a n c b f (w2.drewN nq) hr hf hst hI2.len hI2.z (by have := HKL.out; omega)).mono ?_
        rintro e w3 ⟨bv, rfl, hpb, hnew, hbl⟩
        refine ⟨bv, rfl, ?_⟩
        obtain ⟨fi, hfi⟩ : ∃ fi : Fv, fi = ⟨x, bv, false, b⟩ := ⟨_, rfl⟩
        have hv : vl fi = .agg #[.slice bv.1 bv.2.1 bv.2.2, .bool false] := by subst hfi; rfl
        have hsz : w1.heap.size ≤ (w2.drewN nq).heap.size := b2.size
        have h3 : PX w3 p m V q s1 F1 := (h2.drewN nq).keep hbl
        have hz3 : FZ w3 q z1 := ((HZ1.out.keep b2).keep (bdn' w2 nq)).keep hbl
        have hu3 : Upd (Mk p q) w w3 := ((HU1.out.after b2).drewN nq).after hbl
        have hbw := hu3.size
        have hcnt : (A ++ fi :: B).length ≤ 4096 := by
          have hv := HP.out.v
          have hn := h3.n
          rw [hv] at hn
          rcases HP.out.m with ⟨t, e⟩ | ⟨t, g, e, _⟩
          · subst e
            have hT0 : T = false := by rw [← hT, HFS.out.1, HFS.out.2.2]; exact t
            rw [HFULL.out, hT0] at hful
            have : ¬ (4096 : Int) ≤ (es.size : Int) := fun k => by simp [k] at hful
            rw [hes, hv] at this
            simp at this hn ⊢
            omega
          · subst e
            simp at hn ⊢
            omega
        have cP := put_any p m V q s1 F1 x fi A M B w3 h3 HP.out (by subst hfi; rfl) (by subst hfi; exact hpb _ _) (by subst hfi; show b.size ≤ 262144; rw [← HNB.out]; exact HKL.out) (HOK.out rfl).2 (fun y hy k1 k2 e => by
          have hmem : y ∈ V := by
            rw [HP.out.v]
            rcases List.mem_append.1 hy with k | k
            · exact List.mem_append_left _ (List.mem_append_left _ k)
            · exact List.mem_append_right _ k
          subst hfi
          cases hbv : bv.1 with
          | none =>
            have := (hpb x false).z hbv
            have h5 := (hpb x false).c
            have k2' : 0 < b.size := k2
            have h5' : b.size ≤ bv.2.2 := h5
            have h6 : bv.2.2 = 0 := this
            omega
          | some ad =>
            have h5 := hnew ad hbv
            have e' : y.bv.1 = some ad := by rw [e]; exact hbv
            have h6 := (((h2.drewN nq).b y hmem)).lt k1 e'
            omega) hcnt
        rw [hv] at cP
        refine cP.mono ?_
        rintro e w4 ⟨rfl, h4, u4⟩
        refine ⟨rfl, HT1.out w4 F1 (A ++ fi :: B) ?_ h4 (hz3.upd u4 fun k e k2 => ?_) ((hu3.mono fun k _ e => mk_ms e).trans (u4.mono fun k _ e => by rcases e with e | e; exact .inl e; exact .inr (.inl e))) (fun y hy k ad e => ?_)⟩
        · rw [← HDF.out, if_neg (fun k => k rfl), if_neg (by rw [← HNB.out]; have := HKL.out; omega), if_neg (by rw [hful]; decide), HFS.out.2.2]
          have e9 : fl fi = ⟨x, b, false⟩ := by subst hfi; rfl
          rw [← e9, HP.out.putD (f := fi) (by subst hfi; rfl)]
        · rcases k2 with k2 | k2
          · exact (fz_off h3 hz3 e).1 k2.symm
          · exact (fz_off h3 hz3 e).2 k2.symm
        · have hin : y = fi ∨ y ∈ V := by
            rw [HP.out.v]
            rcases List.mem_append.1 hy with t | t
            · exact .inr (List.mem_append_left _ (List.mem_append_left _ t))
            · rcases List.mem_cons.1 t with t | t
              · exact .inl t
              · exact .inr (List.mem_append_right _ t)
          rcases hin with t | t
          · subst t
            refine .inl ?_
            have h5 := hnew ad (by rw [hfi] at e; exact e)
            have := HU1.out.size
            omega
          · exact .inr ⟨y, t, k, e⟩
      clear h1 kl htv hts' htl htn htS hT b2 h2 hus hm0 hm1 hRM hes hvn HI
      have fin : full s x b = true → Hid (∀ nq, PP (.returned (.int .i64 8)) (w2.drewN nq)) := fun hful nq => HT0.out 8 _ F1 (by rw [← HDF.out, if_neg (fun k => k rfl), if_neg (by rw [← HNB.out]; have := HKL.out; omega), if_pos hful]) ((HD1.out.keep HB2.out).drewN nq) ((HZ1.out.keep HB2.out).keep (bdn' _ _)) ((HU1.out.after HB2.out).drewN nq)
      by_cases q1 : RM < (n : Int) - (tn : Int)
      · have i1 : decide (RM < (n : Int) - (tn : Int)) = true := decide_eq_true q1
        have FN := fin (by rw [HFULL.out, i1]; rfl)
        clear fin GO q1
        go_wp2_with fail
        go_quiet ((go_at_call 78; refine (cR _).mono ?_; rintro e w9 ⟨rfl, j, rfl⟩; exact ⟨rfl, _, drewN_two _ _ _⟩))
        go_wp2
        exact FN.out nq
      · have i1 : decide (RM < (n : Int) - (tn : Int)) = false := decide_eq_false q1
        cases T with
        | true =>
          have GN := GO (by rw [HFULL.out, i1]; rfl)
          clear fin GO q1
          go_wp2_with fail
          go_quiet ((go_at_call 78; refine (cR _).mono ?_; rintro e w9 ⟨rfl, j, rfl⟩; exact ⟨rfl, _, drewN_two _ _ _⟩))
          have cC := (GN nq).out
          clear GN cR
          go_wp2_with fail
          go_at_call 45
          refine cC.mono ?_
          rintro e w3 ⟨⟨ca, cn, cc⟩, rfl, HH⟩
          clear cC
          dsimp only at HH ⊢
          have cP := HH.out
          clear HH
          go_wp2_with fail
          go_at_call 44
          refine cP.mono ?_
          rintro e w4 ⟨rfl, HH⟩
          clear cP
          go_wp2
          exact HH.out
        | false =>
          by_cases q2 : (4096 : Int) ≤ (es.size : Int)
          · have i2 : decide ((4096 : Int) ≤ (es.size : Int)) = true := decide_eq_true q2
            have FN := fin (by rw [HFULL.out, i1, i2]; rfl)
            clear fin GO q1 q2
            go_wp2_with fail
            go_quiet ((go_at_call 78; refine (cR _).mono ?_; rintro e w9 ⟨rfl, j, rfl⟩; exact ⟨rfl, _, drewN_two _ _ _⟩))
            go_wp2
            exact FN.out nq
          · have i2 : decide ((4096 : Int) ≤ (es.size : Int)) = false := decide_eq_false q2
            have GN := GO (by rw [HFULL.out, i1, i2]; rfl)
            clear fin GO q1 q2
            go_wp2_with fail
            go_quiet ((go_at_call 78; refine (cR _).mono ?_; rintro e w9 ⟨rfl, j, rfl⟩; exact ⟨rfl, _, drewN_two _ _ _⟩))
            have cC := (GN nq).out
            clear GN cR
            go_wp2_with fail
            go_at_call 45
            refine cC.mono ?_
            rintro e w3 ⟨⟨ca, cn, cc⟩, rfl, HH⟩
            clear cC
            dsimp only at HH ⊢
            have cP := HH.out
            clear HH
            go_wp2_with fail
            go_at_call 44
            refine cP.mono ?_
            rintro e w4 ⟨rfl, HH⟩
            clear cP
            go_wp2
            exact HH.out
  · have k1 : (e0 == 0) = false := by simpa using k0
    have HE : Hid (WZ = (e0, s1)) := by unfold Hid; rw [← HDF.out, if_pos k0]
    clear h1 k0
    go_wp2
    exact HT0.out e0 _ F1 HE.out HD1.out HZ1.out HU1.out
end Go.Proofs.YtebngmgdciahiaaGreatDoor

namespace Go.Proofs.YtebngmgdciahiaaGreatDoor
open Go.RowKit
open _root_.Go.Proofs.YtebngmgdciahiaaGreatDoor.Nm _root_.Go.Proofs.YtebngmgdciahiaaGreatDoor.Dk
attribute [local go_sem ↓] Go.wp_at_zero Go.wp_at_succ
set_option linter.unusedVariables false

def fileAt (x : ByteArray) (l : List Fl) : Fl := match l[place x l]? with
  | some f => f
  | none => ⟨⟨#[]⟩, ⟨#[]⟩, false⟩
def renS (l : List Fl) (x y : ByteArray) : List Fl := Dk.put (Dk.cut l (place x l)) { fileAt x l with path := y }
/-- What Rename answers, and leaves. -/
def renZ (z : Option Fz) (s : St) (x y : ByteArray) : Int × St :=
  if (askZ z s [x, y]).1 ≠ 0 then ((askZ z s [x, y]).1, (askZ z s [x, y]).2.2) else if there x s.fs = true then (0, { (askZ z s [x, y]).2.2 with fs := renS s.fs x y }) else (6, (askZ z s [x, y]).2.2)
theorem Part.fileAt {V A M B : List Fv} {x : ByteArray} (h : Part V x A M B) (t : there x (V.map fl) = true) : Go.Proofs.YtebngmgdciahiaaGreatDoor.fileAt x (V.map fl) = fl (top M) := by
  obtain ⟨e, _, _⟩ := top_mem h t
  unfold Go.Proofs.YtebngmgdciahiaaGreatDoor.fileAt
  rw [← h.l, h.v, e]
  simp
  rfl
theorem strs2 (w : World) (x y : ByteArray) : Strs (w.alloc (.cells #[.string x, .string y] 9)) (some ⟨w.heap.size, 0, none⟩) [x, y] := fun _ => ⟨w.heap.size, 0, rfl, fun i hi => by
  have : i = 0 ∨ i = 1 := by have : i < 2 := hi; omega
  rcases this with rfl | rfl
  · simp
  · simp⟩
theorem askZ_ok2 {z : Option Fz} {s : St} {x y : ByteArray} (h : (askZ z s [x, y]).1 = 0) : x.size ≤ 600 ∧ y.size ≤ 600 := by
  have hD : ∀ s, (askD s [x, y]).1 = 0 → okPath x = true ∧ okPath y = true := fun s h => by
    unfold askD at h
    split at h
    · cases h
    · split at h
      · cases h
      · split at h
        · next e => simpa using e
        · cases h
  have : okPath x = true ∧ okPath y = true := by
    cases z with
    | none => exact hD s h
    | some z =>
      unfold askZ at h
      dsimp only at h
      split at h
      · cases h
      · exact hD s h
  exact ⟨(okPath_iff.1 this.1).2, (okPath_iff.1 this.2).2⟩
set_option maxHeartbeats 8000000 in
theorem prename_any (p m : Nat) (V : List Fv) (q : Option Nat) (s : St) (F : Int) (z : Option Fz) (x y : ByteArray) (w : World) (h : PX w p m V q s F) (hz : FZ w q z) (hb : Zb z) (hx : x.size ≤ maxLen) (hy : y.size ≤ maxLen) :
    Calls Tryz.prog 63 #[.pointer (some ⟨p, 0, none⟩), .string x, .string y] w (POp p m V q (renZ z s x y).1 (renZ z s x y).2 (askZ z s [x, y]).2.1 w) := by
  obtain ⟨A, M, B, P⟩ := part_at h.r x
  obtain ⟨W, hW⟩ : ∃ W, w.alloc (.cells #[.string x, .string y] 9) = W := ⟨_, rfl⟩
  have bW : Below w.heap.size w W := by rw [← hW]; exact bal _ _
  have hS : Strs W (some ⟨w.heap.size, 0, none⟩) [x, y] := by rw [← hW]; exact strs2 w x y
  have cA := pask_any p m V q s F z (some ⟨w.heap.size, 0, none⟩) 2 [x, y] W (h.keep bW) (hz.keep bW) hb hS (by show 2 ≤ 1000; omega)
  have hs := h.f
  have hfs : (askZ z s [x, y]).2.2.fs = s.fs := askZ_fs z s [x, y]
  obtain ⟨WZ, hWZ⟩ : ∃ u, renZ z s x y = u := ⟨_, rfl⟩
  have hdef := hWZ
  unfold renZ at hdef
  have hok := fun k => askZ_ok2 (z := z) (s := s) (x := x) (y := y) k
  rw [hWZ]
  obtain ⟨e0, he0⟩ : ∃ e0, (askZ z s [x, y]).1 = e0 := ⟨_, rfl⟩
  obtain ⟨s1, hs1⟩ : ∃ s1, (askZ z s [x, y]).2.2 = s1 := ⟨_, rfl⟩
  obtain ⟨z1, hz1⟩ : ∃ z1, (askZ z s [x, y]).2.1 = z1 := ⟨_, rfl⟩
  rw [he0, hs1, hz1] at cA
  rw [he0, hs1] at hdef
  rw [hs1] at hfs
  rw [he0] at hok
  rw [hz1]
  have HP : Hid (Part V x A M B) := P
  have HT0 : Hid (∀ d w' F', WZ = (d, s1) → PX w' p m V q s1 F' → FZ w' q z1 → Upd (Mk p q) w w' → POp p m V q WZ.1 WZ.2 z1 w (.returned (.int .i64 d)) w') := fun d w' F' h0 h1 h2 h3 => by subst h0; exact ⟨rfl, V, F', h1, h2, h3.mono fun k _ e => mk_ms e, Gw.sub fun y hy => hy⟩
  have HT1 : Hid (∀ w' F' V', WZ = (0, { s1 with fs := V'.map fl }) → PX w' p m V' q { s1 with fs := V'.map fl } F' → FZ w' q z1 → Upd (Ms p m q) w w' → Gw w V V' → POp p m V q WZ.1 WZ.2 z1 w (.returned (.int .i64 0)) w') := fun w' F' V' h0 h1 h2 h3 h4 => by subst h0; exact ⟨rfl, V', F', h1, h2, h3, h4⟩
  generalize hPP : POp p m V q WZ.1 WZ.2 z1 w = PP at *
  have HDF : Hid ((if e0 ≠ 0 then (e0, s1) else if there x s.fs = true then (0, { s1 with fs := renS s.fs x y }) else (6, s1)) = WZ) := hdef
  have HFS : Hid (s1.fs = s.fs ∧ s.fs = V.map fl) := ⟨hfs, hs⟩
  have HOK : Hid (e0 = 0 → x.size ≤ 600 ∧ y.size ≤ 600) := hok
  have HX : Hid (x.size ≤ maxLen) := hx
  have HBW : Hid (Below w.heap.size w W) := bW
  have cA1 : Calls Tryz.prog 93 #[.pointer (some ⟨p, 0, none⟩), .slice (some ⟨w.heap.size, 0, none⟩) 2 2] W (PAsk p m V q e0 s1 z1 W) := cA
  clear h hz hb hx hy P bW hS cA hs hfs hWZ hdef hok he0 hs1 hz1 hPP
  go_enter Tryz.func63, Tryz.ntmps63
  go_wp2_with fail
  go_at_call 93
  refine cA1.mono ?_
  rintro e w1 ⟨rfl, F1, h1, hz1, u1⟩
  have HD1 : Hid (PX w1 p m V q s1 F1) := h1
  have HZ1 : Hid (FZ w1 q z1) := hz1
  have HU1 : Hid (Upd (Mk p q) w w1) := (Upd.of HBW.out).trans u1
  clear cA1 hz1 u1 hW
  by_cases k0 : e0 = 0
  · subst k0
    have lk := (h1.look HP.out HX.out).1
    have d0 := h1.c0
    obtain ⟨⟨ta, tn, tc⟩, htv⟩ : ∃ y : Option Addr × Nat × Nat, (top M).bv = y := ⟨_, rfl⟩
    obtain ⟨ts, hts'⟩ : ∃ ts, (top M).sure = ts := ⟨_, rfl⟩
    have htl : vl (top M) = .agg #[.slice ta tn tc, .bool ts] := by unfold vl; rw [htv, hts']
    rw [htl] at lk
    obtain ⟨w2, hw2⟩ : ∃ w2, w1.alloc (.cells #[.slice ta tn tc, .bool ts] 106) = w2 := ⟨_, rfl⟩
    have b2 : Below w1.heap.size w1 w2 := by rw [← hw2]; exact bal _ _
    have HB2 : Hid (Below w1.heap.size w1 w2) := b2
    cases ht : there x s1.fs with
    | false =>
      rw [ht] at lk
      have HE : Hid (WZ = (6, s1)) := by unfold Hid; rw [← HDF.out, if_neg (fun k => k rfl), if_neg (by rw [← HFS.out.1, ht]; decide)]
      clear ht htl htv hts' b2 h1
      go_wp2
      exact HT0.out 6 _ F1 HE.out (HD1.out.keep HB2.out) (HZ1.out.keep HB2.out) (HU1.out.after HB2.out)
    | true =>
      rw [ht] at lk
      have ht' : there x (V.map fl) = true := by rw [← HFS.out.2, ← HFS.out.1]; exact ht
      have h2 := h1.keep b2
      have hx2 : w2.heap[w1.heap.size]? = some (.cells #[.slice ta tn tc, .bool ts] 106) := by rw [← hw2]; exact heap_alloc_new _ _
      obtain ⟨hM, hmem, hpath⟩ := top_mem HP.out ht'
      have DR : Calls Tryz.prog 94 #[.pointer (some ⟨p, 0, none⟩), .string x] w2 fun e w3 => e = .returned (.tuple #[]) ∧ w3.cell? ⟨w1.heap.size, 0, none⟩ = some (.slice ta tn tc) ∧ w3.cell? ⟨w1.heap.size, 1, none⟩ = some (.bool ts) ∧ Hid (Calls Tryz.prog 44 #[.pointer (some ⟨p, 0, none⟩), .string y, .agg #[.slice ta tn tc, .bool ts]] w3 fun e w4 => e = .returned (.tuple #[]) ∧ Hid (PP (.returned (.int .i64 0)) w4)) := by
        refine (drop_any p m V q s1 F1 x A M B w2 h2 HP.out HX.out).mono ?_
        rintro e w3 ⟨rfl, h3, u3⟩
        have hx3 : w3.heap[w1.heap.size]? = some (.cells #[.slice ta tn tc, .bool ts] 106) := (u3.block _ (Array.getElem?_eq_some_iff.1 hx2).1 (fun e => by
          have := h1.lt
          have := h1.m.lt
          omega)).trans hx2
        refine ⟨rfl, cell_of_row w3 w1.heap.size 0 _ _ _ hx3, cell_of_row w3 w1.heap.size 1 _ _ _ hx3, ?_⟩
        obtain ⟨A', M', B', P'⟩ := part_at h3.r y
        obtain ⟨fi, hfi⟩ : ∃ fi : Fv, fi = { top M with path := y } := ⟨_, rfl⟩
        have hv : vl fi = .agg #[.slice ta tn tc, .bool ts] := by subst hfi; exact htl
        have hz3 : FZ w3 q z1 := (HZ1.out.keep b2).upd u3 fun k e k2 => by
          rcases k2 with k2 | k2
          · exact (fz_off h2 (HZ1.out.keep b2) e).1 k2.symm
          · exact (fz_off h2 (HZ1.out.keep b2) e).2 k2.symm
        have hin : ∀ y ∈ A' ++ B', y ∈ A ++ B := fun u hu => by
          rw [P'.v]
          rcases List.mem_append.1 hu with k | k
          · exact List.mem_append_left _ (List.mem_append_left _ k)
          · exact List.mem_append_right _ k
        have hinV : ∀ y ∈ A ++ B, y ∈ V := fun u hu => by
          rw [HP.out.v]
          rcases List.mem_append.1 hu with k | k
          · exact List.mem_append_left _ (List.mem_append_left _ k)
          · exact List.mem_append_right _ k
        have hnb : ∀ g cur, w2.heap[g]? = some (.cells cur 5 (0, 0)) → ¬ (g = p ∨ g = m) := fun g cur e k => by
          rcases k with rfl | rfl
          · rw [h2.o] at e
            injection e with e
            injection e with _ e _
            cases e
          · obtain ⟨es, clock, hbb, _⟩ := h2.m
            rw [hbb] at e
            injection e with e
            cases e
        have cP := put_any p m (A ++ B) q { s1 with fs := (A ++ B).map fl } F1 y fi A' M' B' w3 h3 P' (by subst hfi; rfl) (by subst hfi; exact ((h2.topB HP.out).upd u3 hnb).as rfl rfl) (by subst hfi; exact h2.topS HP.out) (HOK.out rfl).2 (fun u hu k1 k2 => by
          subst hfi
          have := hin u hu
          rcases List.mem_append.1 (hin u hu) with k | k
          · exact HP.out.apsT ht' h2.d u (List.mem_append_left _ k) k1 k2
          · exact HP.out.apsT ht' h2.d u (List.mem_append_right _ k) k1 k2) (by
          have e1 := h2.n
          have e2 := HP.out.v
          rw [hM] at e2
          rw [e2] at e1
          have e3 := congrArg List.length P'.v
          simp at e1 e3 ⊢
          omega)
        rw [hv] at cP
        refine cP.mono ?_
        rintro e w4 ⟨rfl, h4, u4⟩
        refine ⟨rfl, HT1.out w4 F1 (A' ++ fi :: B') ?_ h4 (hz3.upd u4 fun k e k2 => ?_) ((((HU1.out.after b2).mono fun k _ e => mk_ms e).trans (u3.mono fun k _ e => ?_)).trans (u4.mono fun k _ e => ?_)) (fun u hu k ad e => .inr ?_)⟩
        · rw [← HDF.out, if_neg (fun k => k rfl), if_pos (by rw [HFS.out.2]; exact ht'), HFS.out.2]
          unfold renS
          rw [HP.out.cut ht', HP.out.fileAt ht']
          have e9 : ({ fl (top M) with path := y } : Fl) = fl fi := by subst hfi; rfl
          rw [e9, P'.putD (f := fi) (by subst hfi; rfl)]
        · rcases k2 with k2 | k2
          · exact (fz_off h3 hz3 e).1 k2.symm
          · exact (fz_off h3 hz3 e).2 k2.symm
        · rcases e with e | e
          · exact .inl e
          · exact .inr (.inl e)
        · rcases e with e | e
          · exact .inl e
          · exact .inr (.inl e)
        · rcases List.mem_append.1 hu with t | t
          · exact ⟨u, hinV u (hin u (List.mem_append_left _ t)), k, e⟩
          · rcases List.mem_cons.1 t with t | t
            · subst t
              rw [hfi] at k e
              exact ⟨top M, hmem, k, e⟩
            · exact ⟨u, hinV u (hin u (List.mem_append_right _ t)), k, e⟩
      clear ht ht' htl htv hts' b2 h1 h2 hx2 hM hmem hpath
      go_wp2_with fail
      go_at_call 94
      refine DR.mono ?_
      rintro e w3 ⟨rfl, y0, y1, HH⟩
      clear DR
      have cP := HH.out
      clear HH
      go_wp2_with fail
      go_at_call 44
      refine cP.mono ?_
      rintro e w4 ⟨rfl, HH⟩
      clear cP
      go_wp2
      exact HH.out
  · have k1 : (e0 == 0) = false := by simpa using k0
    have HE : Hid (WZ = (e0, s1)) := by unfold Hid; rw [← HDF.out, if_pos k0]
    clear h1 k0
    go_wp2
    exact HT0.out e0 _ F1 HE.out HD1.out HZ1.out HU1.out
/-- Of one path nothing is done. -/
theorem ren_same {V : List Fv} (hr : Rise V) {x : ByteArray} (t : there x (V.map fl) = true) : renS (V.map fl) x x = V.map fl := by
  obtain ⟨A, M, B, P⟩ := part_at hr x
  obtain ⟨hM, hmem, hpath⟩ := top_mem P t
  unfold renS
  rw [P.cut t, P.fileAt t]
  obtain ⟨A', M', B', P'⟩ := part_at (P.riseD hr) x
  have e9 : ({ fl (top M) with path := x } : Fl) = fl (top M) := by rw [← hpath]; rfl
  have hA : A' = A ∧ M' = [] ∧ B' = B := by
    have hM' : M' = [] := by
      rcases P'.m with ⟨_, e⟩ | ⟨_, f, e, hf⟩
      · exact e
      · have : f ∈ A ++ B := by rw [P'.v, e]; simp
        rcases List.mem_append.1 this with k | k
        · exact absurd hf (P.na f k)
        · exact absurd hf (P.nb f k)
    have hv := P'.v
    rw [hM', List.append_nil] at hv
    have hl : A'.length = A.length := by
      rw [P'.l]
      have h1 : ∀ (C : List Fv), (∀ u ∈ C, ls (tx u.path) (tx x) = true) → ∀ D, (∀ u ∈ D, ls (tx x) (tx u.path) = true) → place x ((C ++ D).map fl) = C.length := by
        intro C
        induction C with
        | nil =>
          intro _ D hD
          cases D with
          | nil => rfl
          | cons d D =>
            show (if ls (tx d.path) (tx x) = true then _ else 0) = 0
            rw [if_neg (by rw [ls_both _ _ (hD d (List.mem_cons_self ..))]; decide)]
        | cons u C ih =>
          intro hC D hD
          show (if ls (tx u.path) (tx x) = true then place x ((C ++ D).map fl) + 1 else 0) = _
          rw [if_pos (hC u (List.mem_cons_self ..)), ih (fun v hv => hC v (List.mem_cons_of_mem _ hv)) D hD]
          rfl
      exact h1 A P.a B P.b
    obtain ⟨h1, h2⟩ := List.append_inj hv hl.symm
    exact ⟨h1.symm, hM', h2.symm⟩
  obtain ⟨h1, h2, h3⟩ := hA
  rw [e9, P'.putD (f := top M) hpath, h1, h3, P.v, hM]
  simp [top]
end Go.Proofs.YtebngmgdciahiaaGreatDoor

namespace Go.Proofs.YtebngmgdciahiaaGreatDoor
open Go.RowKit
open _root_.Go.Proofs.YtebngmgdciahiaaGreatDoor.Nm _root_.Go.Proofs.YtebngmgdciahiaaGreatDoor.Dk
attribute [local go_sem ↓] Go.wp_at_zero Go.wp_at_succ
set_option linter.unusedVariables false

/-- A file, or one of nothing. -/
def fileL (x : ByteArray) (l : List Fl) : Fl := if there x l = true then fileAt x l else ⟨⟨#[]⟩, ⟨#[]⟩, false⟩
theorem Part.fileL {V A M B : List Fv} {x : ByteArray} (h : Part V x A M B) : (Go.Proofs.YtebngmgdciahiaaGreatDoor.fileL x (V.map fl)).b = (top M).b ∧ (Go.Proofs.YtebngmgdciahiaaGreatDoor.fileL x (V.map fl)).sure = (top M).sure := by
  unfold Go.Proofs.YtebngmgdciahiaaGreatDoor.fileL
  cases t : there x (V.map fl) with
  | true => rw [if_pos rfl, h.fileAt t]; exact ⟨rfl, rfl⟩
  | false => rw [if_neg (by decide), top_none h t]; exact ⟨rfl, rfl⟩
def LookEnd (f : Fl) (t : Bool) (w : World) (e : Ending) (w' : World) : Prop :=
  ∃ bv : Option Addr × Nat × Nat, e = .returned (.tuple #[.slice bv.1 bv.2.1 bv.2.2, .bool f.sure, .bool t]) ∧ (∀ p s, PB w' ⟨p, bv, s, f.b⟩) ∧ Below w.heap.size w w'
set_option maxHeartbeats 8000000 in
theorem look_any (p m : Nat) (V : List Fv) (q : Option Nat) (s : St) (F : Int) (x : ByteArray) (w : World) (h : PX w p m V q s F) (hx : x.size ≤ maxLen) :
    Calls Tryz.prog 25 #[.pointer (some ⟨p, 0, none⟩), .string x] w (LookEnd (fileL x s.fs) (there x s.fs) w) := by
  obtain ⟨A, M, B, P⟩ := part_at h.r x
  have lk := (h.look P hx).1
  have d0 := h.c0
  obtain ⟨⟨ta, tn, tc⟩, htv⟩ : ∃ y : Option Addr × Nat × Nat, (top M).bv = y := ⟨_, rfl⟩
  obtain ⟨ts, hts'⟩ : ∃ ts, (top M).sure = ts := ⟨_, rfl⟩
  have htl : vl (top M) = .agg #[.slice ta tn tc, .bool ts] := by unfold vl; rw [htv, hts']
  rw [htl] at lk
  obtain ⟨hf1, hf2⟩ := P.fileL
  rw [← h.f] at hf1 hf2
  rw [hts'] at hf2
  obtain ⟨T, hT⟩ : ∃ T, there x s.fs = T := ⟨_, rfl⟩
  rw [hT] at lk
  obtain ⟨Y, hY⟩ : ∃ Y, fileL x s.fs = Y := ⟨_, rfl⟩
  rw [hY] at hf1 hf2
  rw [hT, hY]
  obtain ⟨w2, hw2⟩ : ∃ w2, w.alloc (.cells #[.slice ta tn tc, .bool ts] 106) = w2 := ⟨_, rfl⟩
  have b2 : Below w.heap.size w w2 := by rw [← hw2]; exact bal _ _
  have hx2 : w2.heap[w.heap.size]? = some (.cells #[.slice ta tn tc, .bool ts] 106) := by rw [← hw2]; exact heap_alloc_new _ _
  have x0 := cell_of_row w2 w.heap.size 0 _ _ _ hx2
  have x1 := cell_of_row w2 w.heap.size 1 _ _ _ hx2
  simp only [List.getElem?_toArray, List.getElem?_cons_zero, List.getElem?_cons_succ] at x0 x1
  have ey : w2.drew.cell? ⟨w.heap.size, 0, none⟩ = some (.slice ta tn tc) ∧ w2.drew.cell? ⟨w.heap.size, 1, none⟩ = some (.bool ts) := ⟨x0, x1⟩
  have HT : Hid (∀ (bv : Option Addr × Nat × Nat) w', (∀ p s, PB w' ⟨p, bv, s, (top M).b⟩) → Below w.heap.size w w' → LookEnd Y T w (.returned (.tuple #[.slice bv.1 bv.2.1 bv.2.2, .bool ts, .bool T])) w') := fun bv w' h1 h2 => ⟨bv, by rw [hf2], by rw [hf1]; exact h1, h2⟩
  have cC : Calls Tryz.prog 45 #[.slice ta tn tc] w2.drew fun e w3 => ∃ ca cn cc, e = .returned (.slice ca cn cc) ∧ (w3.cell? ⟨w.heap.size, 0, none⟩ = some (.slice ta tn tc) ∧ w3.cell? ⟨w.heap.size, 1, none⟩ = some (.bool ts)) ∧ Hid ((∀ p s, PB w3 ⟨p, (ca, cn, cc), s, (top M).b⟩) ∧ Below w.heap.size w w3) := by
    have hpb := ((h.keep b2).topB P)
    obtain ⟨f, hf, hr, hst⟩ := hpb.row
    have hn := hpb.n
    have hc := hpb.c
    have hzz := hpb.z
    have hsz := h.topS P
    rw [htv] at hn hc hzz hr
    dsimp only at hn hc hzz hr
    rw [← hn] at hr hst
    refine (clone_any ta tn tc (top M).b f w2.drew (hr.keep ((Below.refl _ _).drew)) hf hst hn (fun e => by have := hzz e; exact ⟨by omega, this⟩) (by omega)).mono ?_
    rintro e w3 ⟨⟨ca, cn, cc⟩, rfl, h1, _, h3⟩
    have hg : w3.heap[w.heap.size]? = some (.cells #[.slice ta tn tc, .bool ts] 106) := (h3.block _ (Array.getElem?_eq_some_iff.1 hx2).1).trans hx2
    exact ⟨ca, cn, cc, rfl, ⟨cell_of_row w3 w.heap.size 0 _ _ _ hg, cell_of_row w3 w.heap.size 1 _ _ _ hg⟩, h1, b2.drew.trans (h3.mono b2.size)⟩
  generalize hPP : LookEnd Y T w = PP at *
  clear h hx P htv hts' htl hf1 hf2 hT hY b2 hx2 x0 x1 hPP
  go_enter Tryz.func25, Tryz.ntmps25
  go_wp2_with fail
  go_region_held3 (fun X => X.cell? ⟨w.heap.size, 0, none⟩ = some (.slice ta tn tc) ∧ X.cell? ⟨w.heap.size, 1, none⟩ = some (.bool ts))
    (first | exact ey | assumption)
    (first
      | (go_at_call 45; with_reducible refine cC.mono ?_; rintro e w3 ⟨ca, cn, cc, rfl, ez, HH⟩))
  all_goals
    go_wp2
    exact bodyPost_ret (v := .tuple #[.slice ca cn cc, .bool ts, .bool T]) (by simp [results, Tryz.results25, go_sem]) rfl (HT.out (ca, cn, cc) _ HH.out.1 HH.out.2)
end Go.Proofs.YtebngmgdciahiaaGreatDoor

namespace Go.Proofs.YtebngmgdciahiaaGreatDoor
open Go.RowKit
open _root_.Go.Proofs.YtebngmgdciahiaaGreatDoor.Nm _root_.Go.Proofs.YtebngmgdciahiaaGreatDoor.Dk
attribute [local go_sem ↓] Go.wp_at_zero Go.wp_at_succ
set_option linter.unusedVariables false

theorem str_tx (G : Nat → Nat) (n : Nat) : tx (str G n) = (List.range n).map fun i => UInt8.ofNat (G i) := by
  unfold tx str
  rw [strOfNums_data, List.map_map]
  apply List.map_congr_left
  intro i _
  simp
theorem str_ext (G : Nat → Nat) {n m : Nat} (h : m ≤ n) : (str G n).extract 0 m = str G m := by
  apply tx_inj
  have : tx ((str G n).extract 0 m) = (tx (str G n)).take m := by unfold tx; simp
  rw [this, str_tx, str_tx, ← List.map_take, List.take_range, Nat.min_eq_left h]
theorem ext_size (b : ByteArray) {m : Nat} (h : m ≤ b.size) : (b.extract 0 m).size = m := by simp; omega
/-- A file's first bytes. -/
theorem cutB {w : World} {x : Fv} (h : PB w x) {m : Nat} (hm : m ≤ x.b.size) :
    ∃ A, (∀ w', Sem.run Tryz.prog (Instr.slice 27 (.slice x.bv.1 x.bv.2.1 x.bv.2.2) none (some (.int .i64 (m : Int))) none) w' = .ok (.slice A m x.bv.2.2) w') ∧ (∀ p s, PB w ⟨p, (A, m, x.bv.2.2), s, x.b.extract 0 m⟩) ∧ (0 < m → A = x.bv.1) := by
  obtain ⟨xp, ⟨a, n, c⟩, xs, b⟩ := x
  have hn := h.n
  have hc := h.c
  have hl := h.l
  have hz := h.z
  have hr := h.r
  dsimp only at hn hc hl hz hr hm ⊢
  have hA : 0 < m → (if c = 0 then a else a.map (·.add (0 * 1))) = a := fun k => by
    obtain ⟨f, _, h3, _⟩ := hr (by omega)
    rcases h3.2 with ⟨e1, e2⟩ | ⟨g, cap, cur, e1, _⟩
    · omega
    · injection e1 with e1 _ _
      rw [e1]
      split
      · rfl
      · show some (Addr.add _ _) = _
        rw [add_plain]
  refine ⟨if c = 0 then a else a.map (·.add (0 * 1)), ?_, fun p s => ⟨?_, ?_, hl, fun e => ?_, fun k => ?_⟩, hA⟩
  · intro w'
    rw [run_slice_h w' 27 a n c Tryz.underlying27 .i64 (m : Int) (by omega) (by omega)]
    have e : (sizeOf (Tryz.prog.elem 27)).run Tryz.prog w' = .ok 1 w' := by kernel_rfl
    rw [e]
    show Result.ok (sliced a _ _ c 1) w' = _
    unfold sliced
    rw [show ((m : Int)).toNat = m by omega, Nat.sub_zero, Nat.sub_zero]
  · show m = (b.extract 0 m).size
    rw [ext_size b hm]
  · show (b.extract 0 m).size ≤ c
    rw [ext_size b hm]; omega
  · show c = 0
    have e' : (if c = 0 then a else a.map (·.add (0 * 1))) = none := e
    split at e'
    · assumption
    · cases a with
      | none => exact hz rfl
      | some y => cases e'
  · have k' : 0 < (b.extract 0 m).size := k
    rw [ext_size b hm] at k'
    obtain ⟨f, h2, h3, h4⟩ := hr (by omega)
    refine ⟨f, h2, ?_, ?_⟩
    · show Own w 0 (.slice (if c = 0 then a else a.map (·.add (0 * 1))) m c) (b.extract 0 m).size f
      rw [hA k', ext_size b hm]
      rcases h3.2 with ⟨e1, e2⟩ | ⟨g, cap, cur, e1, hg, hh, hnc, hmx, hs, ht⟩
      · omega
      · injection e1 with e1 e2 e3
        subst e3
        refine ⟨by rw [bs_length, Nat.mul_one], .inr ⟨g, c, cur, by rw [e1], hg, hh, by omega, hmx, hs, ?_⟩⟩
        have e5 : cur.toList.take (m * 1) = (cur.toList.take (b.size * 1)).take (m * 1) := by rw [List.take_take, Nat.min_eq_left (by omega)]
        rw [e5, ht]
        unfold bs
        rw [← List.map_take, List.take_range, Nat.mul_one, Nat.min_eq_left hm]
    · show str f (b.extract 0 m).size = b.extract 0 m
      rw [ext_size b hm, ← h4, str_ext f hm]
/-- What a crash leaves of a file. -/
def crF (k : Nat) (f : Fl) : Fl := if f.sure = true then f else ⟨f.path, f.b.extract 0 (k % (f.b.size + 1)), true⟩
def crashS (k : Int) (l : List Fl) : List Fl := l.map (crF (max k 0).toNat)
theorem place_app {C D : List Fv} {x : ByteArray} (hC : ∀ u ∈ C, ls (tx u.path) (tx x) = true) (hD : ∀ d E, D = d :: E → ls (tx d.path) (tx x) = false) : place x ((C ++ D).map fl) = C.length := by
  induction C with
  | nil =>
    cases D with
    | nil => rfl
    | cons d D =>
      show (if ls (tx d.path) (tx x) = true then _ else 0) = 0
      rw [if_neg (by rw [hD d D rfl]; decide)]
  | cons u C ih =>
    show (if ls (tx u.path) (tx x) = true then place x ((C ++ D).map fl) + 1 else 0) = _
    rw [if_pos (hC u (List.mem_cons_self ..)), ih (fun v hv => hC v (List.mem_cons_of_mem _ hv))]
    rfl
theorem part_mid {A B : List Fv} {f : Fv} (hr : Rise (A ++ f :: B)) : Part (A ++ f :: B) f.path A [f] B := by
  obtain ⟨h1, h2, h3⟩ := List.pairwise_append.1 hr
  obtain ⟨h4, h5⟩ := List.pairwise_cons.1 h2
  have hp : place f.path ((A ++ f :: B).map fl) = A.length := place_app (fun u hu => h3 u hu f (List.mem_cons_self ..)) (fun d E e => by injection e with e _; subst e; exact ls_same _)
  refine ⟨by simp, fun u hu => h3 u hu f (List.mem_cons_self ..), h4, hp.symm, .inr ⟨?_, f, rfl, rfl⟩⟩
  unfold there
  rw [hp]
  simp
  rfl
/-- The round's relation. -/
structure CrW (p m : Nat) (V : List Fv) (q : Option Nat) (s : St) (F : Int) (K : Nat) (w w1 : World) (v : Value) (M : List Sv) (j : Nat) (C : List Fv) (wr : World) : Prop where
  px : PX wr p m (C ++ V.drop j) q { s with fs := (C ++ V.drop j).map fl } F
  c : C.map fl = ((V.take j).map fl).map (crF K)
  u : Upd (fun k => k = p ∨ k = m) w wr
  g : Gw w V (C ++ V.drop j)
  o : SOwn wr w.heap.size v M
theorem CrW.end {p m : Nat} {V : List Fv} {q : Option Nat} {s : St} {F : Int} {K : Nat} {w w1 : World} {v : Value} {M : List Sv} {C : List Fv} {wr : World} (h : CrW p m V q s F K w w1 v M V.length C wr) : PX wr p m C q { s with fs := (V.map fl).map (crF K) } F ∧ Upd (fun k => k = p ∨ k = m) w wr ∧ Gw w V C := by
  have h1 := h.px
  have h2 := h.g
  have h3 := h.c
  rw [List.drop_length, List.append_nil] at h1 h2
  rw [List.take_length] at h3
  rw [h3] at h1
  exact ⟨h1, h.u, h2⟩
set_option maxHeartbeats 8000000 in
theorem pcrash_any (p m : Nat) (V : List Fv) (q : Option Nat) (s : St) (F k : Int) (w : World) (h : PX w p m V q s F) (hk0 : -9223372036854775808 ≤ k) (hk1 : k ≤ 9223372036854775807) :
    Calls Tryz.prog 24 #[.pointer (some ⟨p, 0, none⟩), .int .i64 k] w fun e w' => e = .returned (.tuple #[]) ∧ ∃ V', PX w' p m V' q { s with fs := crashS k s.fs } F ∧ Upd (fun j => j = p ∨ j = m) w w' ∧ Gw w V V' := by
  have cP := paths_any p m V q s F ⟨#[]⟩ w h (Nat.zero_le _)
  rw [lst_all] at cP
  obtain ⟨K, hK⟩ : ∃ K : Nat, (max k 0).toNat = K := ⟨_, rfl⟩
  have hKK : (if 0 < k then k else 0) = (K : Int) := by split <;> omega
  have hKM : max k 0 = (K : Int) := by omega
  have hKL : K ≤ 9223372036854775807 := by omega
  have HT : Hid (∀ C wr, PX wr p m C q { s with fs := (V.map fl).map (crF K) } F ∧ Upd (fun k => k = p ∨ k = m) w wr ∧ Gw w V C → ∃ V', PX wr p m V' q { s with fs := crashS k s.fs } F ∧ Upd (fun j => j = p ∨ j = m) w wr ∧ Gw w V V') := fun C wr t => ⟨C, by unfold crashS; rw [hK, h.f]; exact t.1, t.2.1, t.2.2⟩
  have HX : Hid (PX w p m V q s F) := h
  have hn := h.n
  have HPA : Hid (s.fs.map (fun f => f.path) = V.map fun f => f.path) := by unfold Hid; rw [h.f, List.map_map]; rfl
  generalize hPP : (fun w' => ∃ V', PX w' p m V' q { s with fs := crashS k s.fs } F ∧ Upd (fun j => j = p ∨ j = m) w w' ∧ Gw w V V') = PP at *
  have HT : Hid (∀ C wr, PX wr p m C q { s with fs := (V.map fl).map (crF K) } F ∧ Upd (fun k => k = p ∨ k = m) w wr ∧ Gw w V C → PP wr) := fun C wr t => by rw [← hPP]; exact HT.out C wr t
  have hgoal : (fun (e : Ending) (w' : World) => e = .returned (.tuple #[]) ∧ ∃ V', PX w' p m V' q { s with fs := crashS k s.fs } F ∧ Upd (fun j => j = p ∨ j = m) w w' ∧ Gw w V V') = fun e w' => e = .returned (.tuple #[]) ∧ PP w' := by rw [← hPP]
  rw [hgoal]
  clear h hK hPP hgoal
  go_enter Tryz.func24, Tryz.ntmps24
  go_wp2_with fail
  go_at_call 43
  refine cP.mono ?_
  rintro e w1 ⟨v, M, rfl, ho, hm, hbl⟩
  have HO : Hid (SOwn w1 w.heap.size v M) := ho
  obtain ⟨ra, rc, ev, hrow⟩ := ho.row
  have hML : M.length = V.length := by
    have := congrArg List.length (hm.trans HPA.out)
    simpa using this
  rw [hML] at ev
  subst ev
  have HMV : Hid (∀ i, i < V.length → M[i]!.s = V[i]!.path) := fun i hi => by
    have := congrArg (fun l => l[i]?) (hm.trans HPA.out)
    simp only [List.getElem?_map] at this
    rw [List.getElem?_eq_getElem (by rw [hML]; exact hi), List.getElem?_eq_getElem hi] at this
    rw [getElem!_pos M i (by rw [hML]; exact hi), getElem!_pos V i hi]
    simpa using this
  have HML : Hid (M.length = V.length) := hML
  have H0 : Hid (CrW p m V q s F K w w1 (.slice ra V.length rc) M 0 [] w1) := by
    have h1 := HX.out.keep hbl
    refine ⟨?_, rfl, Upd.of hbl, Gw.sub fun y hy => by simpa using hy, HO.out⟩
    show PX w1 p m V q { s with fs := V.map fl } F
    rw [← HX.out.f]; exact h1
  clear cP ho hm hbl hrow hML
  go_wp2_with fail
  go_loopw [13] (fun i wr => ∃ (j : Nat) (C : List Fv), j ≤ V.length ∧ i = .int .i64 j ∧ CrW p m V q s F K w w1 (.slice ra V.length rc) M j C wr) (fun i _ => V.length - (intOf i).toNat)
  case atStart => exact ⟨0, [], by omega, rfl, H0.out⟩
  case round =>
    obtain ⟨j, C, hj, rfl, hW⟩ := hrel
    have HW : Hid (CrW p m V q s F K w w1 (.slice ra V.length rc) M j C wr) := hW
    by_cases hlt : j < V.length
    · have ij : (j : Int) < (V.length : Int) := by omega
      obtain ⟨f, hf⟩ : ∃ f, V[j] = f := ⟨_, rfl⟩
      have hd : V.drop j = f :: V.drop (j + 1) := by rw [← hf]; exact List.drop_eq_getElem_cons hlt
      have hpx := hW.px
      rw [hd] at hpx
      have P := part_mid hpx.r
      have lk := (hpx.look P (by
        have := hpx.wf.p (fl f) (by show fl f ∈ (C ++ f :: V.drop (j + 1)).map fl; exact List.mem_map_of_mem (by simp))
        have e : (fl f).path = f.path := rfl
        rw [e] at this
        unfold maxLen; omega)).2
      have d0 := hpx.c0
      obtain ⟨⟨ta, tn, tc⟩, htv⟩ : ∃ y : Option Addr × Nat × Nat, f.bv = y := ⟨_, rfl⟩
      have htl : vl (top [f]) = .agg #[.slice ta tn tc, .bool f.sure] := by show vl f = _; unfold vl; rw [htv]
      rw [htl] at lk
      obtain ⟨t, ht⟩ : ∃ t, f.path = t := ⟨_, rfl⟩
      rw [ht] at lk
      -- the text in the row
      obtain ⟨a', c', e1, hS, _⟩ := hW.o.row
      obtain ⟨b, o, ea, hA⟩ := hS (by rw [HML.out]; omega)
      injection e1 with e1 e2 e3
      subst e3
      rw [ea] at e1
      subst e1
      have r0 := (hA j (by rw [HML.out]; exact hlt)).c0
      have hms := HMV.out j hlt
      rw [getElem!_pos V j hlt, hf, ht] at hms
      rw [hms] at r0
      obtain ⟨w2, hw2⟩ : ∃ w2, wr.alloc (.cells #[.slice ta tn tc, .bool f.sure] 106) = w2 := ⟨_, rfl⟩
      have b2 : Below wr.heap.size wr w2 := by rw [← hw2]; exact bal _ _
      have x0 : w2.cell? ⟨wr.heap.size, 0, none⟩ = some (.slice ta tn tc) := by rw [← hw2]; simp
      have x1 : w2.cell? ⟨wr.heap.size, 1, none⟩ = some (.bool f.sure) := by rw [← hw2]; simp
      have HB2 : Hid (Below wr.heap.size wr w2) := b2
      have HFD : Hid (V.drop j = f :: V.drop (j + 1) ∧ V[j] = f) := ⟨hd, hf⟩
      have r1 : wr.cell? ⟨b, o + j, none⟩ = some (.string t) := by simpa using r0
      clear hA hS r0 hms e2
      cases hsu : f.sure with
      | true =>
        rw [hsu] at lk x1 hw2
        have HN : Hid (CrW p m V q s F K w w1 (.slice (some ⟨b, o, none⟩) V.length rc) M (j + 1) (C ++ [f]) w2) := by
          have h2 := hpx.keep b2
          refine ⟨?_, ?_, HW.out.u.after b2, ?_, HW.out.o.keep b2⟩
          · have e : C ++ [f] ++ V.drop (j + 1) = C ++ f :: V.drop (j + 1) := by simp
            rw [e]
            exact h2
          · rw [← List.take_append_getElem hlt, List.map_append, List.map_append, List.map_append, HW.out.c, hf]
            congr 1
            show [fl f] = [crF K (fl f)]
            unfold crF
            rw [if_pos (show (fl f).sure = true from hsu)]
          · have e : C ++ [f] ++ V.drop (j + 1) = C ++ V.drop j := by rw [hd]; simp
            rw [e]; exact HW.out.g
        clear hpx P hW b2 hd htv htl hf ht hsu
        go_wp2
        go_round
        case rel => exact ⟨j + 1, C ++ [f], by omega, by go_num, HN.out⟩
        case measure => simp [intOf]; omega
      | false =>
        rw [hsu] at lk x1 hw2
        have hpb := (hpx.b f (by simp)).keep b2
        have hbn := hpb.n
        rw [htv] at hbn
        dsimp only at hbn
        have hbs := hpx.wf.b (fl f) (by show fl f ∈ (C ++ f :: V.drop (j + 1)).map fl; exact List.mem_map_of_mem (by simp))
        have hbs : f.b.size ≤ 262144 := hbs
        obtain ⟨l, hl⟩ : ∃ l, K % (tn + 1) = l := ⟨_, rfl⟩
        have hlt2 : l ≤ tn := by have := Nat.mod_lt K (show 0 < tn + 1 by omega); omega
        obtain ⟨A, hrun, hPA, hAe⟩ := cutB hpb (m := l) (by omega)
        rw [htv] at hrun hPA hAe
        dsimp only at hrun hPA hAe
        have wn : IntKind.i64.wrap ((tn : Int) + 1) = (tn : Int) + 1 := by rw [IntKind.wrap_i64]; omega
        have tm : (K : Int).tmod ((tn : Int) + 1) = (l : Int) := by
          rw [← hl]
          show (K : Int).tmod (((tn + 1 : Nat) : Int)) = _
          rw [Int.ofNat_tmod]
        obtain ⟨fi, hfi⟩ : ∃ fi : Fv, fi = ⟨t, (A, l, tc), true, f.b.extract 0 l⟩ := ⟨_, rfl⟩
        have hv : vl fi = .agg #[.slice A l tc, .bool true] := by subst hfi; rfl
        have PU : Hid (Calls Tryz.prog 44 #[.pointer (some ⟨p, 0, none⟩), .string t, .agg #[.slice A l tc, .bool true]] w2 fun e w4 => e = .returned (.tuple #[]) ∧ Hid (CrW p m V q s F K w w1 (.slice (some ⟨b, o, none⟩) V.length rc) M (j + 1) (C ++ [fi]) w4)) := by
          have h2 := hpx.keep b2
          rw [← hv]
          have P' := P
          rw [ht] at P'
          refine (put_any p m _ q _ F t fi C [f] (V.drop (j + 1)) w2 h2 P' (by subst hfi; rfl) (by subst hfi; exact hPA _ _) (by subst hfi; show (f.b.extract 0 l).size ≤ 262144; rw [ext_size f.b (by omega)]; omega) (by
            have := hpx.wf.p (fl f) (by show fl f ∈ (C ++ f :: V.drop (j + 1)).map fl; exact List.mem_map_of_mem (by simp))
            rw [← ht]; exact this) (fun u hu k1 k2 e => by
            have hz2 : (fi.b).size = l := by subst hfi; exact ext_size f.b (by omega)
            have hA2 := hAe (by omega)
            have := P.apsT (by rcases P.m with ⟨_, e⟩ | ⟨t, _⟩; cases e; exact t) h2.d u hu k1
            refine this (by show 0 < f.b.size; omega) ?_
            show u.bv.1 = f.bv.1
            rw [htv]
            show u.bv.1 = ta
            rw [e, hfi]
            exact hA2) (by
            have := h2.n
            simp at this ⊢
            omega)).mono ?_
          rintro e w4 ⟨rfl, h4, u4⟩
          have e1 : C ++ [fi] ++ V.drop (j + 1) = C ++ fi :: V.drop (j + 1) := by simp
          refine ⟨rfl, ?_, ?_, (HW.out.u.after b2).trans u4, ?_, sown_upd (HW.out.o.keep b2) u4 fun g cur e k => ?_⟩
          · rw [e1]; exact h4
          · rw [← List.take_append_getElem hlt, List.map_append, List.map_append, List.map_append, HW.out.c, hf]
            congr 1
            show [fl fi] = [crF K (fl f)]
            unfold crF
            rw [if_neg (by show ¬ f.sure = true; rw [hsu]; decide)]
            show _ = [(⟨f.path, f.b.extract 0 (K % (f.b.size + 1)), true⟩ : Fl)]
            rw [← hbn, hl, hfi, ht]
            rfl
          · rw [e1]
            intro y hy k ad e
            have hin : y = fi ∨ y ∈ C ++ V.drop j := by
              rw [hd]
              rcases List.mem_append.1 hy with t | t
              · exact .inr (List.mem_append_left _ t)
              · rcases List.mem_cons.1 t with t | t
                · exact .inl t
                · exact .inr (List.mem_append_right _ (List.mem_cons_of_mem _ t))
            rcases hin with t | t
            · have hz2 : (fi.b).size = l := by subst hfi; exact ext_size f.b (by omega)
              rw [t] at k e
              have hA2 := hAe (by omega)
              exact HW.out.g f (by rw [hd]; simp) (by omega) ad (by rw [htv]; show ta = some ad; rw [← hA2]; rw [hfi] at e; exact e)
            · exact HW.out.g y t k ad e
          · rcases k with rfl | rfl
            · rw [(hpx.keep b2).o] at e
              injection e with e
              injection e with _ e _
              cases e
            · obtain ⟨es, clock, hbb, _⟩ := (hpx.keep b2).m
              rw [hbb] at e
              injection e with e
              cases e
        have HW2 : Hid (wr.alloc (.cells #[.slice ta tn tc, .bool false] 106) = w2) := hw2
        clear hpx P hW b2 hd htv htl hf ht hsu hpb hbn hbs hl hlt2 hPA hAe hfi hv hw2 x0 x1
        go_wp2_with fail
        go_at_call 44
        rw [HW2.out]
        refine PU.out.mono ?_
        rintro e w4 ⟨rfl, HN⟩
        clear PU
        go_wp2
        go_round
        case rel => exact ⟨j + 1, C ++ [fi], by omega, by go_num, HN.out⟩
        case measure => simp [intOf]; omega
    · have hjn : j = V.length := by omega
      subst hjn
      have ij : decide ((V.length : Int) < (V.length : Int)) = false := by simp
      have HF : Hid (PP wr) := HT.out C wr HW.out.end
      clear hlt hW
      go_wp2
      exact bodyPost_end (v := .tuple #[]) (by simp [results, Tryz.results24, go_sem]) rfl ⟨rfl, HF.out⟩
end Go.Proofs.YtebngmgdciahiaaGreatDoor
