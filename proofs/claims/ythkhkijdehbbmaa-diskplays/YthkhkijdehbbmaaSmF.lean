/-
  Read, Delete, Sync of the program's disk.
-/
import Derived.Test.YthkhkijdehbbmaaSmE
set_option maxRecDepth 100000
namespace Go.Proofs.Ythkhkijdehbbmaa
open Go.RowKit Dk Nm
attribute [local go_sem ↓] Go.wp_at_zero Go.wp_at_succ
set_option linter.unusedVariables false

section
variable {V A M B : List Fv} {x : ByteArray}
theorem Part.dataAt (h : Part V x A M B) (t : there x (V.map fl) = true) : Go.Proofs.Ythkhkijdehbbmaa.dataAt x (V.map fl) = (top M).b := by
  obtain ⟨e, _, _⟩ := top_mem h t
  unfold Go.Proofs.Ythkhkijdehbbmaa.dataAt
  rw [← h.l, h.v, e]
  simp
  rfl
theorem Part.sureAt (h : Part V x A M B) (t : there x (V.map fl) = true) : Go.Proofs.Ythkhkijdehbbmaa.setSure (V.map fl) (place x (V.map fl)) = (A ++ { top M with sure := true } :: B).map fl := by
  obtain ⟨e, _, _⟩ := top_mem h t
  unfold Go.Proofs.Ythkhkijdehbbmaa.setSure
  rw [← h.l]
  apply List.ext_getElem?
  intro i
  rw [h.v, e]
  simp only [List.getElem?_modify, List.map_append, List.map_cons, List.append_assoc, List.singleton_append]
  by_cases k : A.length = i
  · subst k
    simp
    rfl
  · by_cases k2 : i < A.length
    · simp [List.getElem?_append_left, k2, k]
    · rw [List.getElem?_append_right (by simpa using Nat.le_of_not_lt k2), List.getElem?_append_right (by simpa using Nat.le_of_not_lt k2)]
      obtain ⟨j, hj⟩ : ∃ j, i - (A.map fl).length = j + 1 := ⟨i - A.length - 1, by rw [List.length_map]; omega⟩
      rw [hj, List.getElem?_cons_succ, List.getElem?_cons_succ]
      simp [k]
theorem Part.apsT (h : Part V x A M B) (t : there x (V.map fl) = true) (d : V.Pairwise Aps) : ∀ y ∈ A ++ B, Aps y (top M) := by
  obtain ⟨e, _, _⟩ := top_mem h t
  rw [h.v, e] at d
  obtain ⟨h1, h2, h3⟩ := List.pairwise_append.1 d
  obtain ⟨h4, h5, h6⟩ := List.pairwise_append.1 h1
  intro y hy
  rcases List.mem_append.1 hy with k | k
  · exact h6 y k _ (List.mem_singleton.2 rfl)
  · have := h3 (top M) (by simp) y k
    exact fun a b e => this b a e.symm
end
/-- What an operation that answers a number leaves. -/
def POp (p m : Nat) (V : List Fv) (q : Option Nat) (d : Int) (s' : St) (z' : Option Fz) (w : World) (e : Ending) (w' : World) : Prop :=
  e = .returned (.int .i64 d) ∧ ∃ V' F', PX w' p m V' q s' F' ∧ FZ w' q z' ∧ Upd (Ms p m q) w w' ∧ Gw w V V'
theorem mk_ms {p m : Nat} {q : Option Nat} {k : Nat} (h : Mk p q k) : Ms p m q k := by
  rcases h with h | h
  · exact .inl h
  · exact .inr (.inr h)
def PRead (p m : Nat) (V : List Fv) (q : Option Nat) (Y : ByteArray × Int) (s' : St) (z' : Option Fz) (w : World) (e : Ending) (w' : World) : Prop :=
  ∃ bv : Option Addr × Nat × Nat, e = .returned (.tuple #[.slice bv.1 bv.2.1 bv.2.2, .int .i64 Y.2]) ∧ (∀ p s, PB w' ⟨p, bv, s, Y.1⟩) ∧ ∃ F', PX w' p m V q s' F' ∧ FZ w' q z' ∧ Upd (Mk p q) w w'
theorem PB.keep {w w' : World} {x : Fv} (h : PB w x) (b : Below w.heap.size w w') : PB w' x := h.upd (M := fun _ => False) (Upd.of b) fun _ _ _ k => k
set_option maxHeartbeats 4000000 in
theorem pread_any (p m : Nat) (V : List Fv) (q : Option Nat) (s : St) (F : Int) (z : Option Fz) (x : ByteArray) (w : World) (h : PX w p m V q s F) (hz : FZ w q z) (hb : Zb z) (hx : x.size ≤ maxLen) :
    Calls Try.prog 15 #[.pointer (some ⟨p, 0, none⟩), .string x] w (PRead p m V q (readZ z s x) (askZ z s [x]).2.2 (askZ z s [x]).2.1 w) := by
  obtain ⟨A, M, B, P⟩ := part_at h.r x
  have cF := find_any p m V q s F z x A M B w h hz hb P hx
  have hs := h.f
  have HP : Hid (Part V x A M B) := P
  have HV : Hid (s.fs = V.map fl) := h.f
  -- what is answered
  have HY : Hid (∀ t, ((fndZ z s x = 0 ∧ (askZ z s [x]).1 = 0 ∧ there x s.fs = true ∧ t = top M) ∨ (fndZ z s x ≠ 0 ∧ ((askZ z s [x]).1 = 0 → there x s.fs = false) ∧ t = zeroF)) → readZ z s x = (t.b, fndZ z s x)) := by
    intro t ht
    unfold readZ
    rcases ht with ⟨h1, h2, h3, h4⟩ | ⟨h1, h2, h4⟩
    · rw [if_neg (fun k => k h2), if_pos h3, h1, h4]
      rw [h.f] at h3 ⊢
      rw [P.dataAt h3]
    · subst h4
      unfold fndZ
      by_cases k : (askZ z s [x]).1 = 0
      · rw [if_neg (fun e => e k), if_neg (by rw [h2 k]; decide), if_neg (fun e => e k), if_neg (by rw [h2 k]; decide)]; rfl
      · rw [if_pos k, if_pos k]; rfl
  obtain ⟨Y, hY⟩ : ∃ Y, readZ z s x = Y := ⟨_, rfl⟩
  rw [hY]
  unfold Hid at HY
  rw [hY] at HY
  have HY : Hid (∀ t, ((fndZ z s x = 0 ∧ (askZ z s [x]).1 = 0 ∧ there x s.fs = true ∧ t = top M) ∨ (fndZ z s x ≠ 0 ∧ ((askZ z s [x]).1 = 0 → there x s.fs = false) ∧ t = zeroF)) → Y = (t.b, fndZ z s x)) := HY
  obtain ⟨d, hd⟩ : ∃ d, fndZ z s x = d := ⟨_, rfl⟩
  rw [hd] at HY
  have HD : Hid (fndZ z s x = d) := hd
  have HT : Hid (∀ (bv : Option Addr × Nat × Nat) (b : ByteArray) F' e w', Y = (b, d) → e = .returned (.tuple #[.slice bv.1 bv.2.1 bv.2.2, .int .i64 d]) → (∀ p s, PB w' ⟨p, bv, s, b⟩) → PX w' p m V q (askZ z s [x]).2.2 F' → FZ w' q (askZ z s [x]).2.1 → Upd (Mk p q) w w' → PRead p m V q Y (askZ z s [x]).2.2 (askZ z s [x]).2.1 w e w') := by
    intro bv b F' e w' hy h1 h2 h3 h4 h5
    subst hy
    exact ⟨bv, h1, h2, F', h3, h4, h5⟩
  have cF1 : Calls Try.prog 38 #[.pointer (some ⟨p, 0, none⟩), .string x] w fun e w' => ∃ ta tn tc ts t F1, e = .returned (.tuple #[.agg #[.slice ta tn tc, .bool ts], .int .i64 d]) ∧ Hid (t.bv = (ta, tn, tc) ∧ Y = (t.b, d) ∧ PB w' t ∧ t.b.size ≤ 262144 ∧ PX w' p m V q (askZ z s [x]).2.2 F1 ∧ FZ w' q (askZ z s [x]).2.1 ∧ Upd (Mk p q) w w') := by
    refine cF.mono ?_
    rintro e w1 ⟨t, F1, h1, h2, h3, h4, h5⟩
    rw [hd] at h2 h1
    refine ⟨t.bv.1, t.bv.2.1, t.bv.2.2, t.sure, t, F1, h1, rfl, HY.out t h2, ?_, ?_, h3, h4, h5⟩
    · rcases h2 with ⟨_, _, _, e⟩ | ⟨_, _, e⟩
      · rw [e]; exact h3.topB P
      · rw [e]; exact PB.zero _
    · rcases h2 with ⟨_, _, _, e⟩ | ⟨_, _, e⟩
      · rw [e]; exact h3.topS P
      · rw [e]; exact Nat.zero_le _
  generalize hPP : PRead p m V q Y (askZ z s [x]).2.2 (askZ z s [x]).2.1 w = PP at *
  clear h hz hb hx P cF hs hY hd hPP
  go_enter Try.func15, Try.ntmps15
  go_wp2_with fail
  go_at_call 38
  refine cF1.mono ?_
  rintro e w1 ⟨ta, tn, tc, ts, t, F1, rfl, HH⟩
  clear cF1
  obtain ⟨w2, hw2⟩ : ∃ w2, w1.alloc (.cells #[.slice ta tn tc, .bool ts] 74) = w2 := ⟨_, rfl⟩
  have b2 : Below w1.heap.size w1 w2 := by rw [← hw2]; exact bal _ _
  have x0 : w2.cell? ⟨w1.heap.size, 0, none⟩ = some (.slice ta tn tc) := by rw [← hw2]; simp
  have x1 : w2.cell? ⟨w1.heap.size, 1, none⟩ = some (.bool ts) := by rw [← hw2]; simp
  have HB2 : Hid (Below w1.heap.size w1 w2) := b2
  have cC : Calls Try.prog 35 #[.slice ta tn tc] w2 (ClEnd t.b w2) := by
    obtain ⟨e1, _, hpb, hsz, _⟩ := HH.out
    obtain ⟨f, hf, hr, hst⟩ := hpb.row
    have hn := hpb.n
    have hc := hpb.c
    have hzz := hpb.z
    rw [e1] at hn hc hzz hr
    dsimp only at hn hc hzz hr
    rw [← hn] at hr hst
    exact clone_any ta tn tc t.b f w2 (hr.keep b2) hf hst hn (fun e => by have := hzz e; exact ⟨by omega, this⟩) (by omega)
  clear b2
  go_wp2_with fail
  go_at_call 35
  refine cC.mono ?_
  rintro e w3 ⟨⟨ca, cn, cc⟩, rfl, hpb, _, b3⟩
  have HB3 : Hid (∀ p s, PB w3 ⟨p, (ca, cn, cc), s, t.b⟩) := hpb
  have HB4 : Hid (Below w2.heap.size w2 w3) := b3
  clear cC hpb b3 x0 x1
  dsimp only
  go_wp2
  obtain ⟨_, e2, _, _, h3, h4, h5⟩ := HH.out
  have hbb := HB2.out.trans (HB4.out.mono HB2.out.size)
  exact HT.out (ca, cn, cc) t.b F1 _ _ e2 rfl HB3.out (h3.keep hbb) (h4.keep hbb) (h5.after hbb)

theorem delZ_eq (z : Option Fz) (s : St) (x : ByteArray) : (delZ z s x).1 = fndZ z s x ∧ (fndZ z s x ≠ 0 → (delZ z s x).2 = (askZ z s [x]).2.2) ∧ ((askZ z s [x]).1 = 0 → there x s.fs = true → (delZ z s x).2 = { (askZ z s [x]).2.2 with fs := Dk.cut s.fs (place x s.fs) }) := by
  unfold delZ fndZ
  by_cases k : (askZ z s [x]).1 = 0
  · simp only [k, ne_eq, not_true, if_false]
    by_cases t : there x s.fs = true
    · simp [t]
    · simp [t]
  · simp [k]
theorem synZ_eq (z : Option Fz) (s : St) (x : ByteArray) : (synZ z s x).1 = fndZ z s x ∧ (fndZ z s x ≠ 0 → (synZ z s x).2 = (askZ z s [x]).2.2) ∧ ((askZ z s [x]).1 = 0 → there x s.fs = true → (synZ z s x).2 = { (askZ z s [x]).2.2 with fs := Go.Proofs.Ythkhkijdehbbmaa.setSure s.fs (place x s.fs) }) := by
  unfold synZ fndZ
  by_cases k : (askZ z s [x]).1 = 0
  · simp only [k, ne_eq, not_true, if_false]
    by_cases t : there x s.fs = true
    · simp [t]
    · simp [t]
  · simp [k]
set_option maxHeartbeats 4000000 in
theorem pdelete_any (p m : Nat) (V : List Fv) (q : Option Nat) (s : St) (F : Int) (z : Option Fz) (x : ByteArray) (w : World) (h : PX w p m V q s F) (hz : FZ w q z) (hb : Zb z) (hx : x.size ≤ maxLen) :
    Calls Try.prog 17 #[.pointer (some ⟨p, 0, none⟩), .string x] w (POp p m V q (delZ z s x).1 (delZ z s x).2 (askZ z s [x]).2.1 w) := by
  obtain ⟨A, M, B, P⟩ := part_at h.r x
  have cF := find_any p m V q s F z x A M B w h hz hb P hx
  have hs := h.f
  have hfs : (askZ z s [x]).2.2.fs = s.fs := askZ_fs z s [x]
  obtain ⟨y1, y2, y3⟩ := delZ_eq z s x
  obtain ⟨d, hd⟩ : ∃ d, fndZ z s x = d := ⟨_, rfl⟩
  obtain ⟨s1, hs1⟩ : ∃ s1, (askZ z s [x]).2.2 = s1 := ⟨_, rfl⟩
  rw [hs1] at y2 y3 hfs
  rw [hd] at y1 y2
  rw [y1]
  have HP : Hid (Part V x A M B) := P
  have HT0 : Hid (∀ w' F', d ≠ 0 → PX w' p m V q s1 F' → FZ w' q (askZ z s [x]).2.1 → Upd (Mk p q) w w' → POp p m V q d (delZ z s x).2 (askZ z s [x]).2.1 w (.returned (.int .i64 d)) w') := fun w' F' h0 h1 h2 h3 => ⟨rfl, V, F', by rw [y2 h0]; exact h1, h2, h3.mono fun k _ e => mk_ms e, Gw.sub fun y hy => hy⟩
  have HT1 : Hid (∀ w' F', (askZ z s [x]).1 = 0 → there x s.fs = true → PX w' p m (A ++ B) q { s1 with fs := (A ++ B).map fl } F' → FZ w' q (askZ z s [x]).2.1 → Upd (Ms p m q) w w' → POp p m V q d (delZ z s x).2 (askZ z s [x]).2.1 w (.returned (.int .i64 d)) w') := fun w' F' h0 ht h1 h2 h3 => by
    refine ⟨rfl, A ++ B, F', ?_, h2, h3, Gw.sub fun y hy => ?_⟩
    · rw [y3 h0 ht, hs, P.cut (by rw [← hs]; exact ht)]; exact h1
    · rw [P.v]
      rcases List.mem_append.1 hy with k | k
      · exact List.mem_append_left _ (List.mem_append_left _ k)
      · exact List.mem_append_right _ k
  have cF1 : Calls Try.prog 38 #[.pointer (some ⟨p, 0, none⟩), .string x] w fun e w' => ∃ ta tn tc ts F1, e = .returned (.tuple #[.agg #[.slice ta tn tc, .bool ts], .int .i64 d]) ∧ Hid ((d = 0 → (askZ z s [x]).1 = 0 ∧ there x s.fs = true) ∧ PX w' p m V q s1 F1 ∧ FZ w' q (askZ z s [x]).2.1 ∧ Upd (Mk p q) w w') := by
    refine cF.mono ?_
    rintro e w1 ⟨t, F1, h1, h2, h3, h4, h5⟩
    rw [hd] at h2 h1
    rw [hs1] at h3
    refine ⟨t.bv.1, t.bv.2.1, t.bv.2.2, t.sure, F1, h1, fun h0 => ?_, h3, h4, h5⟩
    rcases h2 with ⟨_, a, b, _⟩ | ⟨a, _, _⟩
    · exact ⟨a, b⟩
    · exact absurd h0 a
  have HX : Hid (x.size ≤ maxLen) := hx
  generalize hPP : POp p m V q d (delZ z s x).2 (askZ z s [x]).2.1 w = PP at *
  clear h hz hb hx P cF hs y1 y2 y3 hd hs1 hPP hfs
  go_enter Try.func17, Try.ntmps17
  go_wp2_with fail
  go_at_call 38
  refine cF1.mono ?_
  rintro e w1 ⟨ta, tn, tc, ts, F1, rfl, HH⟩
  clear cF1
  obtain ⟨w2, hw2⟩ : ∃ w2, w1.alloc (.cells #[.slice ta tn tc, .bool ts] 74) = w2 := ⟨_, rfl⟩
  have b2 : Below w1.heap.size w1 w2 := by rw [← hw2]; exact bal _ _
  have HB2 : Hid (Below w1.heap.size w1 w2) := b2
  by_cases k0 : d = 0
  · subst k0
    have cD : Calls Try.prog 36 #[.pointer (some ⟨p, 0, none⟩), .string x] w2 (PutEnd p m (A ++ B) q s1 F1 w2) := by
      obtain ⟨_, h3, _, _⟩ := HH.out
      exact drop_any p m V q s1 F1 x A M B w2 (h3.keep b2) HP.out HX.out
    clear b2
    go_wp2_with fail
    go_at_call 36
    refine cD.mono ?_
    rintro e w3 ⟨rfl, h6, u6⟩
    have H6 : Hid (PX w3 p m (A ++ B) q { s1 with fs := (A ++ B).map fl } F1) := h6
    have U6 : Hid (Upd (fun k => k = p ∨ k = m) w2 w3) := u6
    clear cD h6 u6
    go_wp2
    obtain ⟨hh, h3, h4, h5⟩ := HH.out
    have hh := hh (by trivial)
    refine HT1.out _ F1 hh.1 hh.2 H6.out ((h4.keep HB2.out).upd U6.out fun k e k2 => ?_) (((h5.after HB2.out).mono fun k _ e => mk_ms e).trans (U6.out.mono fun k _ e => by rcases e with e | e; exact .inl e; exact .inr (.inl e)))
    rcases k2 with k2 | k2
    · exact (fz_off h3 h4 e).1 k2.symm
    · exact (fz_off h3 h4 e).2 k2.symm
  · have k1 : (d == 0) = false := by simpa using k0
    have K0 : Hid (d ≠ 0) := k0
    clear b2 k0
    go_wp2
    obtain ⟨hh, h3, h4, h5⟩ := HH.out
    exact HT0.out _ F1 K0.out (h3.keep HB2.out) (h4.keep HB2.out) (h5.after HB2.out)
set_option maxHeartbeats 4000000 in
theorem psync_any (p m : Nat) (V : List Fv) (q : Option Nat) (s : St) (F : Int) (z : Option Fz) (x : ByteArray) (w : World) (h : PX w p m V q s F) (hz : FZ w q z) (hb : Zb z) (hx : x.size ≤ maxLen) :
    Calls Try.prog 16 #[.pointer (some ⟨p, 0, none⟩), .string x] w (POp p m V q (synZ z s x).1 (synZ z s x).2 (askZ z s [x]).2.1 w) := by
  obtain ⟨A, M, B, P⟩ := part_at h.r x
  have cF := find_any p m V q s F z x A M B w h hz hb P hx
  have hs := h.f
  have hfs : (askZ z s [x]).2.2.fs = s.fs := askZ_fs z s [x]
  obtain ⟨y1, y2, y3⟩ := synZ_eq z s x
  obtain ⟨d, hd⟩ : ∃ d, fndZ z s x = d := ⟨_, rfl⟩
  obtain ⟨s1, hs1⟩ : ∃ s1, (askZ z s [x]).2.2 = s1 := ⟨_, rfl⟩
  rw [hs1] at y2 y3 hfs
  rw [hd] at y1 y2
  rw [y1]
  have HP : Hid (Part V x A M B) := P
  have HS : Hid (s.fs = V.map fl) := hs
  have HDD : Hid (V.Pairwise Aps) := h.d
  have HT0 : Hid (∀ w' F', d ≠ 0 → PX w' p m V q s1 F' → FZ w' q (askZ z s [x]).2.1 → Upd (Mk p q) w w' → POp p m V q d (synZ z s x).2 (askZ z s [x]).2.1 w (.returned (.int .i64 d)) w') := fun w' F' h0 h1 h2 h3 => ⟨rfl, V, F', by rw [y2 h0]; exact h1, h2, h3.mono fun k _ e => mk_ms e, Gw.sub fun y hy => hy⟩
  have HT1 : Hid (∀ w' F', (askZ z s [x]).1 = 0 → there x s.fs = true → PX w' p m (A ++ { top M with sure := true } :: B) q { s1 with fs := (A ++ { top M with sure := true } :: B).map fl } F' → FZ w' q (askZ z s [x]).2.1 → Upd (Ms p m q) w w' → POp p m V q d (synZ z s x).2 (askZ z s [x]).2.1 w (.returned (.int .i64 d)) w') := fun w' F' h0 ht h1 h2 h3 => by
    refine ⟨rfl, A ++ { top M with sure := true } :: B, F', ?_, h2, h3, fun y hy k a e => .inr ?_⟩
    · rw [y3 h0 ht, hs, P.sureAt (by rw [← hs]; exact ht)]; exact h1
    · obtain ⟨_, ht2, _⟩ := top_mem P (by rw [← hs]; exact ht)
      rcases List.mem_append.1 hy with t | t
      · exact ⟨y, by rw [P.v]; exact List.mem_append_left _ (List.mem_append_left _ t), k, e⟩
      · rcases List.mem_cons.1 t with t | t
        · subst t; exact ⟨top M, ht2, k, e⟩
        · exact ⟨y, by rw [P.v]; exact List.mem_append_right _ t, k, e⟩
  have cF1 : Calls Try.prog 38 #[.pointer (some ⟨p, 0, none⟩), .string x] w fun e w' => ∃ ta tn tc ts F1, e = .returned (.tuple #[.agg #[.slice ta tn tc, .bool ts], .int .i64 d]) ∧ Hid ((d = 0 → (askZ z s [x]).1 = 0 ∧ there x s.fs = true ∧ (top M).bv = (ta, tn, tc)) ∧ PX w' p m V q s1 F1 ∧ FZ w' q (askZ z s [x]).2.1 ∧ Upd (Mk p q) w w') := by
    refine cF.mono ?_
    rintro e w1 ⟨t, F1, h1, h2, h3, h4, h5⟩
    rw [hd] at h2 h1
    rw [hs1] at h3
    refine ⟨t.bv.1, t.bv.2.1, t.bv.2.2, t.sure, F1, h1, fun h0 => ?_, h3, h4, h5⟩
    rcases h2 with ⟨_, a, b, c⟩ | ⟨a, _, _⟩
    · subst c; exact ⟨a, b, rfl⟩
    · exact absurd h0 a
  generalize hPP : POp p m V q d (synZ z s x).2 (askZ z s [x]).2.1 w = PP at *
  clear h hz hb hx P cF hs y1 y2 y3 hd hs1 hPP hfs
  go_enter Try.func16, Try.ntmps16
  go_wp2_with fail
  go_at_call 38
  refine cF1.mono ?_
  rintro e w1 ⟨ta, tn, tc, ts, F1, rfl, HH⟩
  clear cF1
  obtain ⟨w2, hw2⟩ : ∃ w2, w1.alloc (.cells #[.slice ta tn tc, .bool ts] 74) = w2 := ⟨_, rfl⟩
  have b2 : Below w1.heap.size w1 w2 := by rw [← hw2]; exact bal _ _
  have HB2 : Hid (Below w1.heap.size w1 w2) := b2
  by_cases k0 : d = 0
  · subst k0
    have hg2 : w2.heap[w1.heap.size]? = some (.cells #[.slice ta tn tc, .bool ts] 74) := by rw [← hw2]; exact heap_alloc_new _ _
    have x0 := cell_of_row w2 w1.heap.size 0 _ _ _ hg2
    have x1 := cell_of_row w2 w1.heap.size 1 _ _ _ hg2
    have xf := frozen_of_row w2 w1.heap.size 1 _ _ hg2
    simp only [List.getElem?_toArray, List.getElem?_cons_zero, List.getElem?_cons_succ] at x0 x1
    obtain ⟨w3, hw3⟩ : ∃ w3, w2.setCell ⟨w1.heap.size, 1, none⟩ (.bool true) = w3 := ⟨_, rfl⟩
    have hg3 : w3.heap[w1.heap.size]? = some (.cells #[.slice ta tn tc, .bool true] 74) := by
      rw [← hw3, heap_setCell_same w2 w1.heap.size 1 _ _ (.bool true) hg2]; rfl
    have y0 := cell_of_row w3 w1.heap.size 0 _ _ _ hg3
    have y1 := cell_of_row w3 w1.heap.size 1 _ _ _ hg3
    simp only [List.getElem?_toArray, List.getElem?_cons_zero, List.getElem?_cons_succ] at y0 y1
    have b3 : Below w1.heap.size w1 w3 := by rw [← hw3]; exact b2.setCell (Nat.le_refl _) _
    have HB3 : Hid (Below w1.heap.size w1 w3) := b3
    have cD : Calls Try.prog 34 #[.pointer (some ⟨p, 0, none⟩), .string x, .agg #[.slice ta tn tc, .bool true]] w3 (PutEnd p m (A ++ { top M with sure := true } :: B) q s1 F1 w3) := by
      obtain ⟨hh, h3, _, _⟩ := HH.out
      obtain ⟨h00, ht, hbv⟩ := hh rfl
      rw [HS.out] at ht
      obtain ⟨hM, hmem, hpath⟩ := top_mem HP.out ht
      have hX3 := h3.keep b3
      have hv : vl { top M with sure := true } = .agg #[.slice ta tn tc, .bool true] := by unfold vl; rw [hbv]
      rw [← hv]
      refine put_any p m V q s1 F1 x { top M with sure := true } A M B w3 hX3 HP.out hpath ((hX3.topB HP.out).as rfl rfl) (hX3.topS HP.out) ?_ ?_ ?_
      · have := hX3.wf.p (fl (top M)) (by rw [hX3.f]; exact List.mem_map_of_mem hmem)
        have e2 : (fl (top M)).path = x := hpath
        rw [e2] at this; exact this
      · intro y hy a b
        exact HP.out.apsT ht HDD.out y hy a b
      · have hn := hX3.n
        have e := HP.out.v
        rw [hM] at e
        rw [e] at hn
        simpa using hn
    clear b2 b3 hg2 hg3
    go_wp2_with fail
    go_at_call 34
    refine cD.mono ?_
    rintro e w4 ⟨rfl, h6, u6⟩
    have H6 : Hid (PX w4 p m (A ++ { top M with sure := true } :: B) q { s1 with fs := (A ++ { top M with sure := true } :: B).map fl } F1) := h6
    have U6 : Hid (Upd (fun k => k = p ∨ k = m) w3 w4) := u6
    clear cD h6 u6
    go_wp2
    obtain ⟨hh, h3, h4, h5⟩ := HH.out
    have hh := hh (by trivial)
    refine HT1.out _ F1 hh.1 hh.2.1 H6.out ((h4.keep HB3.out).upd U6.out fun k e k2 => ?_) (((h5.after HB3.out).mono fun k _ e => mk_ms e).trans (U6.out.mono fun k _ e => by rcases e with e | e; exact .inl e; exact .inr (.inl e)))
    rcases k2 with k2 | k2
    · exact (fz_off h3 h4 e).1 k2.symm
    · exact (fz_off h3 h4 e).2 k2.symm
  · have k1 : (d == 0) = false := by simpa using k0
    have K0 : Hid (d ≠ 0) := k0
    clear b2 k0
    go_wp2
    obtain ⟨hh, h3, h4, h5⟩ := HH.out
    exact HT0.out _ F1 K0.out (h3.keep HB2.out) (h4.keep HB2.out) (h5.after HB2.out)
end Go.Proofs.Ythkhkijdehbbmaa
