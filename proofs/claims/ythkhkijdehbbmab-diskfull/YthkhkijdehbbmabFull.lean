/-
  A disk takes files as long as they all go into it, and not one byte more; what is refused leaves what there was; what is taken away makes room: for every number and every row of deeds. No condition.
-/
import Derived.Test.YthkhkijdehbbmabRows
import Derived.WalkKit
import Derived.ProofKit
import Derived.OpenShut
import Derived.ShutString
import Derived.ChangeOld
import Derived.Below
import Derived.SizedLaws
import Derived.ChangeSame
import Derived.ChangeMaps5
import Derived.Test.YthkhkijdehbbmabSmMg
set_option maxRecDepth 100000
namespace Go.Proofs.Ythkhkijdehbbmab
namespace diskFull
open Go.ChangeShapes Go.WideShapes Go.ChangeAt Go.RowKit
open _root_.Go.Proofs.Ythkhkijdehbbmab.Nm _root_.Go.Proofs.Ythkhkijdehbbmab.Dk
set_option linter.unusedVariables false
attribute [local go_sem ↓] Go.wp_at_zero Go.wp_at_succ

theorem own : ownKnob Try.prog.godebug = none := by kernel_rfl
theorem laidOut : laidOutB Try.prog = true := by kernel_rfl

def gZ (x : Fv) : DataW Value := .lit (.int .i64 ((x.b.size : Nat) : Int))
def SMf (l : List Fl) : DataW Value := .map (l.map fun f => (kl f.path, .lit (.int .i64 ((f.b.size : Nat) : Int))))
theorem smf_eq (V : List Fv) : SMf (V.map fl) = DG gZ V := by
  unfold SMf DG
  rw [List.map_map]
  rfl
theorem smf_size (l : List Fl) : Maps.size (SMf l) = l.length := by show (l.map _).length = _; rw [List.length_map]
theorem zeroEI (w : World) : (zeroValue 3).run Try.prog w = .ok (.int .i64 0) w := by kernel_rfl
noncomputable abbrev RI : Value → Option (DataW Value × List MemPlace) := plainElem Try.prog 3
/-- What is kept of the sizes. -/
structure Sz (w : World) (sm : Nat) (l : List Fl) : Prop where
  m : w.ownsMap Try.prog 9 RI sm l.length (SMf l)
theorem Sz.upd {M : Nat → Prop} {w w' : World} {sm : Nat} {l : List Fl} (h : Sz w sm l) (u : Upd M w w') (hm : ¬ M sm) : Sz w' sm l := ⟨map_upd h.m u hm⟩
theorem Sz.look {w : World} {sm : Nat} {V A M B : List Fv} {x : ByteArray} (h : Sz w sm (V.map fl)) (P : Part V x A M B) (hx : x.size ≤ maxLen) (hs : (top M).b.size ≤ 262144) :
    (Instr.lookup 41 (.map (some sm)) (.string x) true).run Try.prog w = .ok (.tuple #[.int .i64 (((top M).b.size : Nat) : Int), .bool (there x (V.map fl))]) w ∧ (Instr.lookup 41 (.map (some sm)) (.string x) false).run Try.prog w = .ok (.int .i64 (((top M).b.size : Nat) : Int)) w := by
  have hk : (SMf (V.map fl)).atKey (kl x) (.lit (.int .i64 0)) = .lit (.int .i64 (((top M).b.size : Nat) : Int)) := by
    rw [smf_eq, P.atKeyG gZ]
    cases M with
    | nil => rfl
    | cons f M => rfl
  constructor
  · obtain ⟨v, ps, hr, hv⟩ := h.m.look_ok lawS Try.underlying41 (zeroEI w) (plainElem_int Try.underlying3 (by decide)) (keyS hx)
    obtain ⟨c, rfl, hc, _⟩ := plainElem_int_inv Try.underlying3 hv
    have := congrArg Prod.fst hc
    dsimp only at this
    rw [hk] at this
    injection this with this
    injection this with _ this
    rw [hr, this, smf_eq, P.hasG gZ]
  · obtain ⟨c, hr, hc, _⟩ := h.m.lookup_int lawS Try.underlying41 Try.underlying3 (zeroEI w) (keyS hx)
    rw [hk] at hc
    injection hc with hc
    injection hc with _ hc
    rw [hr, ← hc]
theorem Sz.drop {w : World} {sm : Nat} {V A M B : List Fv} {x : ByteArray} (h : Sz w sm (V.map fl)) (P : Part V x A M B) (hx : x.size ≤ maxLen) (ty : TypeId) :
    ∃ w', (Builtin.delete_ #[41, 9] ty #[.map (some sm), .string x]).run Try.prog w = .ok (.tuple #[]) w' ∧ Sz w' sm ((A ++ B).map fl) ∧ Upd (fun k => k = sm) w w' := by
  obtain ⟨w', hr, ho, ht⟩ := h.m.drop lawS Try.underlying41 (keyS hx) ty
  rw [smf_eq, P.delG gZ, ← smf_eq] at ho
  have := tight ho
  rw [smf_size] at this
  exact ⟨w', hr, ⟨this⟩, turned_upd ht⟩
theorem Sz.store {w : World} {sm : Nat} {V A M B : List Fv} {x : ByteArray} (h : Sz w sm (V.map fl)) (P : Part V x A M B) (hx : x.size ≤ maxLen) {f : Fv} (hf : f.path = x) (hs : f.b.size ≤ 262144) (hl : V.length ≤ 10000) :
    ∃ w', (Instr.mapUpdate 41 (.map (some sm)) (.string x) (.int .i64 ((f.b.size : Nat) : Int))).run Try.prog w = .ok () w' ∧ Sz w' sm ((A ++ f :: B).map fl) ∧ Upd (fun k => k = sm) w w' := by
  obtain ⟨w', hr, ho, ht⟩ := h.m.store (d := gZ f) (ps := []) (val := .int .i64 ((f.b.size : Nat) : Int)) lawS Try.underlying41 (by rw [List.length_map]; unfold maxLen; omega) (keyS hx) (plainElem_int Try.underlying3 (by simp [Lit.wf, IntKind.min, IntKind.max, IntKind.signed, IntKind.bits]; omega))
  rw [smf_eq, P.putG gZ hf, ← smf_eq] at ho
  have := tight ho
  rw [smf_size] at this
  exact ⟨w', hr, ⟨this⟩, turned_upd ht⟩
theorem Sz.len {w : World} {sm : Nat} {l : List Fl} (h : Sz w sm l) (ty : TypeId) : (Builtin.len_ #[41] ty #[.map (some sm)]).run Try.prog w = .ok (.int .i64 (l.length : Int)) w := by
  have := h.m.len Try.underlying41 ty
  rw [smf_size] at this
  exact this
/-- The round's relation. -/
structure FlW (w0 : World) (p m sm : Nat) (n : Nat) (j u : Nat) (s : St) (w : World) : Prop where
  h : On w0 w p m none s none
  z : Sz w sm s.fs
  off : s.off = false
  bad : s.bad = 0
  most : s.most = (n : Int)
  us : used s.fs = u
  ln : s.fs.length ≤ j
  ne : sm ≠ p ∧ sm ≠ m ∧ w0.heap.size ≤ sm
/-- A map beside the disk is turned. -/
theorem on_side {w0 w w' : World} {p m sm : Nat} {s : St} (h : On w0 w p m none s none) {es : Array MapEntry} {cl : Nat} (hm : w.heap[sm]? = some (.map es cl)) (h1 : sm ≠ p) (h2 : sm ≠ m) (h3 : w0.heap.size ≤ sm) (u : Upd (fun k => k = sm) w w') : On w0 w' p m none s none := by
  obtain ⟨V, F, x⟩ := h.px
  refine ⟨⟨V, F, x.turn u (fun k e cur T t => ?_) (fun e => h2 e.symm) ?_ rfl x.wf x.F0 x.F1⟩, trivial, Upd.below h.b u (fun i k => by rw [k]; exact h3) h.b.size, h.p0, h.m0, fun k e => by cases e⟩
  · subst e
    rw [hm] at t
    injection t with t
    cases t
  · rw [u.block p x.lt (fun e => h1 e.symm)]; exact x.o
theorem Sz.block {w : World} {sm : Nat} {l : List Fl} (h : Sz w sm l) : ∃ es cl, w.heap[sm]? = some (.map es cl) := by
  obtain ⟨es, cl, hb, _⟩ := h.m
  exact ⟨es, cl, hb⟩
theorem zbN : Zb none := fun y e => by cases e
/-- A file is taken away. -/
theorem fl_del {w0 w : World} {p m sm n j u : Nat} {s : St} (h : FlW w0 p m sm n j u s w) {x : ByteArray} (hx : okPath x = true) :
    ∃ (o : Nat), o ≤ 262144 ∧ o ≤ u ∧ Hid ((∀ w', Upd (Ms p m none) w w' → (Instr.lookup 41 (.map (some sm)) (.string x) true).run Try.prog w' = .ok (.tuple #[.int .i64 (o : Int), .bool (there x s.fs)]) w' ∧ (Instr.lookup 41 (.map (some sm)) (.string x) false).run Try.prog w' = .ok (.int .i64 (o : Int)) w') ∧
      Calls Try.prog 11 #[.pointer (some ⟨p, 0, none⟩), .string x] w fun e w' => e = .returned (.int .i64 (if there x s.fs = true then 0 else 6)) ∧ Hid (Upd (Ms p m none) w w' ∧ ∀ ty, ∃ w'', (Builtin.delete_ #[41, 9] ty #[.map (some sm), .string x]).run Try.prog w' = .ok (.tuple #[]) w'' ∧ ∃ s', FlW w0 p m sm n (j + 1) (u - o) s' w'')) := by
  obtain ⟨V, F, px⟩ := h.h.px
  obtain ⟨A, M, B, P⟩ := part_at px.r x
  have hok := okPath_iff.1 hx
  have hml : x.size ≤ maxLen := by unfold maxLen; omega
  have hts := px.topS P
  have hz := h.z
  rw [px.f] at hz
  have hpu := P.used
  have hM : used (M.map fl) = (top M).b.size := by
    rcases P.m with ⟨_, e⟩ | ⟨_, g, e, _⟩
    · subst e; rfl
    · subst e; rfl
  have hu := h.us
  rw [px.f] at hu
  have hnm : ¬ Ms p m none sm := fun k => by
    rcases k with k | k | k
    · exact h.ne.1 k
    · exact h.ne.2.1 k
    · cases k
  refine ⟨(top M).b.size, hts, by omega, fun w' u => ?_, ?_⟩
  · rw [px.f]
    exact (hz.upd u hnm).look P hml hts
  · refine (on_delete h.h zbN hml).mono ?_
    rintro e w' ⟨rfl, k1, u1⟩
    have hA : askZ none s [x] = (0, none, s) := by
      show ((askD s [x]).1, none, (askD s [x]).2) = _
      rw [askD_go h.off h.bad (by simp [hx])]
    have hD : delZ none s x = (if there x s.fs = true then 0 else 6, { s with fs := (A ++ B).map fl }) := by
      unfold delZ
      rw [hA, if_neg (fun k => k rfl)]
      cases t : there x s.fs with
      | true =>
        rw [if_pos rfl, if_pos rfl]
        rw [px.f] at t ⊢
        rw [P.cut t]
      | false =>
        rw [if_neg (by decide), if_neg (by decide)]
        have t' := t
        rw [px.f] at t'
        have hv := P.v
        rw [top_none P t', List.append_nil] at hv
        have e9 : ({ s with fs := (A ++ B).map fl } : St) = s := by rw [← hv, ← px.f]
        rw [e9]
    rw [hD] at k1 ⊢
    refine ⟨rfl, u1, fun ty => ?_⟩
    obtain ⟨w'', hr, z2, u2⟩ := (hz.upd u1 hnm).drop P hml ty
    obtain ⟨es, cl, hb⟩ := (hz.upd u1 hnm).block
    refine ⟨w'', hr, { s with fs := (A ++ B).map fl }, on_side k1 hb h.ne.1 h.ne.2.1 h.ne.2.2 u2, z2, h.off, h.bad, h.most, by show used ((A ++ B).map fl) = _; omega, ?_, h.ne⟩
    have h1 := h.ln
    rw [px.f, List.length_map, P.v] at h1
    show ((A ++ B).map fl).length ≤ j + 1
    simp at h1 ⊢
    omega
/-- A file is written. -/
theorem fl_put {w0 w : World} {p m sm n j u : Nat} {s : St} (h : FlW w0 p m sm n j u s w) {x : ByteArray} (hx : okPath x = true) (hj : j ≤ 100) {a : Option Addr} {bn c : Nat} {b : ByteArray} (hi : Inp w a bn c b) (hbn : bn ≤ 5000) :
    ∃ (o : Nat), o ≤ 262144 ∧ o ≤ u ∧ Hid (Calls Try.prog 10 #[.pointer (some ⟨p, 0, none⟩), .string x, .slice a bn c] w fun e w' => e = .returned (.int .i64 (if u - o + bn ≤ n then 0 else 8)) ∧ Hid (Upd (Ms p m none) w w' ∧ (∀ nq, (Instr.lookup 41 (.map (some sm)) (.string x) false).run Try.prog (w'.drewN nq) = .ok (.int .i64 (o : Int)) (w'.drewN nq)) ∧
      (u - o + bn ≤ n → ∀ nq, ∃ w'', (Instr.mapUpdate 41 (.map (some sm)) (.string x) (.int .i64 (bn : Int))).run Try.prog (w'.drewN nq) = .ok () w'' ∧ ∃ s', FlW w0 p m sm n (j + 1) (u - o + bn) s' w'') ∧ (¬ u - o + bn ≤ n → FlW w0 p m sm n (j + 1) u s w'))) := by
  obtain ⟨V, F, px⟩ := h.h.px
  obtain ⟨A, M, B, P⟩ := part_at px.r x
  have hok := okPath_iff.1 hx
  have hml : x.size ≤ maxLen := by unfold maxLen; omega
  have hts := px.topS P
  have hz := h.z
  rw [px.f] at hz
  have hpu := P.used
  have hM : used (M.map fl) = (top M).b.size := by
    rcases P.m with ⟨_, e⟩ | ⟨_, g, e, _⟩
    · subst e; rfl
    · subst e; rfl
  have hu := h.us
  rw [px.f] at hu
  have hnm : ¬ Ms p m none sm := fun k => by
    rcases k with k | k | k
    · exact h.ne.1 k
    · exact h.ne.2.1 k
    · cases k
  have hln := h.ln
  have hlen := hi.len
  refine ⟨(top M).b.size, hts, by omega, ?_⟩
  refine (on_write h.h zbN hml hi (by unfold maxLen; omega)).mono ?_
  rintro e w' ⟨rfl, k1, u1⟩
  have hA : askZ none s [x] = (0, none, s) := by
    show ((askD s [x]).1, none, (askD s [x]).2) = _
    rw [askD_go h.off h.bad (by simp [hx])]
  have hold := fs_same px P
  have hfull : full s x b = decide (¬ u - (top M).b.size + bn ≤ n) := by
    unfold full
    rw [hold, h.most, h.us, decide_eq_false (show ¬ 4096 ≤ s.fs.length by omega), Bool.and_false, Bool.or_false]
    exact decide_eq_decide.2 (by omega)
  by_cases q : u - (top M).b.size + bn ≤ n
  · have hW : wriZ none s x b = (0, { s with fs := Dk.put s.fs ⟨x, b, false⟩ }) := wri_ok rfl h.off h.bad hx (by omega) (by rw [hfull]; exact decide_eq_false (fun k => k q))
    rw [hW] at k1 ⊢
    obtain ⟨fi, hfi⟩ : ∃ fi : Fv, fi = ⟨x, (none, 0, 0), false, b⟩ := ⟨_, rfl⟩
    have hput : Dk.put s.fs ⟨x, b, false⟩ = (A ++ fi :: B).map fl := by
      rw [px.f]
      have e9 : fl fi = ⟨x, b, false⟩ := by subst hfi; rfl
      rw [← e9, P.putD (f := fi) (by subst hfi; rfl)]
    rw [hput] at k1
    refine ⟨by rw [if_pos q], u1, fun nq => ((hz.upd u1 hnm).upd (M := fun _ => False) (Upd.of (bdn' _ nq)) id).look P hml hts |>.2, fun _ nq => ?_, fun k => absurd q k⟩
    have z1 := (hz.upd u1 hnm).upd (M := fun _ => False) (Upd.of (bdn' w' nq)) id
    obtain ⟨w'', hr, z2, u2⟩ := z1.store P hml (f := fi) (by subst hfi; rfl) (by subst hfi; show b.size ≤ 262144; omega) (by have := px.n; omega)
    obtain ⟨es, cl, hb⟩ := z1.block
    have e1 : fi.b.size = bn := by subst hfi; exact hlen.symm
    rw [e1] at hr
    refine ⟨w'', hr, { s with fs := (A ++ fi :: B).map fl }, on_side (k1.keep (bdn' _ nq)) hb h.ne.1 h.ne.2.1 h.ne.2.2 u2, z2, h.off, h.bad, h.most, ?_, ?_, h.ne⟩
    · show used ((A ++ fi :: B).map fl) = _
      rw [used_mid, e1]; omega
    · have h1 := h.ln
      rw [px.f, List.length_map, P.v] at h1
      show ((A ++ fi :: B).map fl).length ≤ j + 1
      simp at h1 ⊢
      omega
  · have hW : wriZ none s x b = (8, s) := by
      unfold wriZ
      rw [hA, if_neg (fun k => k rfl), if_neg (by omega), if_pos (by rw [hfull]; exact decide_eq_true q)]
    rw [hW] at k1 ⊢
    refine ⟨by rw [if_neg q], u1, fun nq => ((hz.upd u1 hnm).upd (M := fun _ => False) (Upd.of (bdn' _ nq)) id).look P hml hts |>.2, fun k => absurd k q, fun _ => ⟨k1, h.z.upd u1 hnm, h.off, h.bad, h.most, h.us, by omega, h.ne⟩⟩
set_option maxHeartbeats 8000000 in
theorem core (n : Nat) (a : Option Addr) (c : Nat) (L : List Dd) (w0 : World) (hn : n ≤ 65535) (hD : Ds w0 a L) (hz : a = none → L.length = 0 ∧ c = 0) (hl : L.length ≤ maxLen) (hok : ∀ i, i < L.length → Dok L[i]!) :
    Calls Try.prog 4 #[.int .u16 (n : Int), .slice a L.length c] w0 fun e w' => e = .returned (.bool true) ∧ Below w0.heap.size w0 w' := by
  have cA := awake_any w0
  have hmm := @run_makeMap Try.prog
  go_enter Try.func4, Try.ntmps4
  go_wp2_with fail
  go_at_call 6
  refine cA.mono ?_
  rintro e w ⟨rfl, b0⟩
  clear cA
  have HB0 : Hid (Below w0.heap.size w0 w) := b0
  have cR := room_any a c L 50 w (hD.keep b0) hl
  have HD : Hid (Ds w0 a L) := hD
  have HOK : Hid (∀ i, i < L.length → Dok L[i]!) := hok
  clear b0 hD hok
  go_wp2_with fail
  go_at_call 7
  refine cR.mono ?_
  rintro e w ⟨rfl, rfl⟩
  clear cR
  cases hR : roomB L 50 with
  | false =>
    go_wp2
    go_ret
    exact ⟨rfl, HB0.out⟩
  | true =>
    obtain ⟨hlen, hsm⟩ := roomB_out hR
    have HSM : Hid (∀ i, i < L.length → L[i]!.a.size ≤ 1000 ∧ L[i]!.b.size ≤ 1000 ∧ L[i]!.v.2.1 ≤ 5000) := hsm
    clear hR hsm
    obtain ⟨K, hKK⟩ : ∃ K, n % 300 = K := ⟨_, rfl⟩
    have hK39 : K ≤ 299 := by omega
    have tm : ((n : Nat) : Int).tmod 300 = (K : Int) := by
      rw [← hKK]
      show (n : Int).tmod ((300 : Nat) : Int) = _
      rw [Int.ofNat_tmod]
    have cv : Sem.run Try.prog (convert 40 3 (.int .u16 (n : Int))) w = .ok (.int .i64 (n : Int)) w := by
      simp [convert, run_underlying Try.underlying40, run_underlying Try.underlying3, Conv.intToInt]
      rw [IntKind.wrap_i64]; omega
    have cW := on_new w0 w HB0.out none none trivial (fun j e => by cases e) (K : Int) (by omega) (by omega)
    dsimp only [Option.map] at cW
    clear hKK
    go_wp2_with fail
    go_at_call 9
    refine cW.mono ?_
    rintro e x1 ⟨rfl, h1, _⟩
    obtain ⟨m, hm⟩ : ∃ m, w.heap.size = m := ⟨_, rfl⟩
    rw [hm] at h1
    obtain ⟨x2, hx2⟩ : ∃ x2, x1.alloc (.map #[] 0) = x2 := ⟨_, rfl⟩
    obtain ⟨sm, hsm⟩ : ∃ sm, x1.heap.size = sm := ⟨_, rfl⟩
    have HW0 : Hid (FlW w0 (m + 1) m sm K 0 0 (newSt K) x2) := by
      have l1 := h1.lt (m + 1) (.inl rfl)
      have l2 := h1.b.size
      have b2 : Below x1.heap.size x1 x2 := by rw [← hx2]; exact bal _ _
      refine ⟨h1.keep b2, ⟨?_⟩, rfl, rfl, ?_, rfl, Nat.le_refl _, by omega, by omega, by omega⟩
      · rw [← hx2, ← hsm]
        exact World.ownsMap_made x1 Try.prog 9 RI
      · show (if (K : Int) < 0 ∨ 4194304 < (K : Int) then 0 else (K : Int)) = (K : Int)
        rw [if_neg (by omega)]
    clear cW h1 cv
    go_wp2_with fail
    go_loopw [8, 9] (fun uv i wr => ∃ (j u : Nat) (s : St), j ≤ L.length ∧ i = .int .i64 j ∧ uv = .int .i64 u ∧ u ≤ K ∧ FlW w0 (m + 1) m sm K j u s wr) (fun _ i _ => L.length - (intOf i).toNat)
    case atStart => exact ⟨0, 0, newSt K, by omega, rfl, rfl, by omega, HW0.out⟩
    case round =>
      obtain ⟨j, u, s, hj, rfl, rfl, hu, hW⟩ := hrel
      have HW : Hid (FlW w0 (m + 1) m sm K j u s wr) := hW
      have hb := hW.h.b
      clear hW
      by_cases hlt : j < L.length
      · have ij : (j : Int) < (L.length : Int) := by omega
        obtain ⟨bb, oo, rfl, hA⟩ := (HD.out.keep hb) (by omega)
        have HA : Hid (∀ wr, Below w0.heap.size w0 wr → DAt wr bb (oo + j * 5) L[j]!) := fun wr hb' => by
          obtain ⟨b', o', e, hA'⟩ := (HD.out.keep hb') (by omega)
          injection e with e
          injection e with e1 e2
          subst e1; subst e2
          exact hA' j hlt
        have t1 := (hA j hlt).c1
        have hs := HSM.out j hlt
        have hk := HOK.out j hlt
        obtain ⟨e, he⟩ : ∃ e, L[j]! = e := ⟨_, rfl⟩
        rw [he] at t1 hs HA hk
        obtain ⟨ed, en, ea, eb, ⟨va, vn, vc⟩, ex⟩ := e
        dsimp only at t1 hs
        have hn0 := hk.n0
        have hn1 := hk.n1
        dsimp only at hn0 hn1
        clear hA he hk
        -- the name
        obtain ⟨U, hU⟩ : ∃ U : Nat, IntKind.u64.wrap en = (U : Int) := ⟨(IntKind.u64.wrap en).toNat, by rw [IntKind.wrap_u64]; omega⟩
        obtain ⟨r, hr⟩ : ∃ r, U % 5 = r := ⟨_, rfl⟩
        have hr5 : r < 5 := by omega
        have hUb : U < 18446744073709551616 := by rw [IntKind.wrap_u64] at hU; omega
        have cv1 : Sem.run Try.prog (convert 3 42 (.int .i64 en)) wr = .ok (.int .u64 (U : Int)) wr := by
          simp [convert, run_underlying Try.underlying42, run_underlying Try.underlying3, Conv.intToInt, hU]
        have tm5 : (U : Int).tmod 5 = (r : Int) := by
          rw [← hr]
          show (U : Int).tmod ((5 : Nat) : Int) = _
          rw [Int.ofNat_tmod]
        have cv2 : Sem.run Try.prog (convert 42 5 (.int .u64 (r : Int))) wr = .ok (.int .u8 (r : Int)) wr := by
          simp [convert, run_underlying Try.underlying42, run_underlying Try.underlying5, Conv.intToInt]
          rw [IntKind.wrap_u8]; omega
        obtain ⟨q, hq⟩ : ∃ q, 97 + r = q := ⟨_, rfl⟩
        have w8 : IntKind.u8.wrap (97 + (r : Int)) = (q : Int) := by rw [IntKind.wrap_u8]; omega
        obtain ⟨w1, hw1⟩ : ∃ w1, wr.alloc (.cells #[.int .u8 (q : Int)] 5) = w1 := ⟨_, rfl⟩
        have b1 : Below wr.heap.size wr w1 := by rw [← hw1]; exact bal _ _
        have hrow := lit1 wr q (by omega)
        rw [hw1] at hrow
        have cv3 := conv_row (c := 1) hrow (fun e => by cases e)
        obtain ⟨y, hy⟩ : ∃ y, str (fun _ => q) 1 = y := ⟨_, rfl⟩
        rw [hy] at cv3
        obtain ⟨x, hx⟩ : ∃ x : ByteArray, ({ data := #[102] } : ByteArray) ++ y = x := ⟨_, rfl⟩
        have hys : y.size = 1 := by
          have := congrArg List.length (str_tx (fun _ => q) 1)
          rw [tx_length, hy] at this
          simpa using this
        have hxs : okPath x = true := by
          rw [okPath_iff, ← hx, ByteArray.size_append]
          rw [hys]
          exact ⟨by decide, by decide⟩
        have hW1 : FlW w0 (m + 1) m sm K j u s w1 := by
          have h9 := HW.out
          have hsm9 : sm < wr.heap.size := h9.z.m.lt
          exact ⟨h9.h.keep b1, h9.z.upd (M := fun _ => False) (Upd.of b1) id, h9.off, h9.bad, h9.most, h9.us, h9.ln, h9.ne⟩
        have HW1 : Hid (FlW w0 (m + 1) m sm K j u s w1) := hW1
        have hA1 := HA.out w1 hW1.h.b
        have d0 := hA1.c0
        have d4 := hA1.c4
        have hinp := hA1.i
        dsimp only at d0 d4 hinp
        have HOKP : Hid (okPath x = true) := hxs
        have HJ : Hid (j ≤ 100) := by unfold Hid; omega
        have HI : Hid (Inp w1 va vn vc ex) := hinp
        have HS5 : Hid (vn ≤ 5000) := hs.2.2
        clear b1 hrow hy hr hq hxs hA1 hinp hs hW1 hUb hn0 hn1
        by_cases q1 : ed = 5
        · subst q1
          obtain ⟨o, ho1, ho2, HDl⟩ := fl_del HW1.out HOKP.out
          obtain ⟨lk, _⟩ := HDl.out.1 w1 (Upd.refl _ _)
          have cD := HDl.out.2
          clear d4
          have wd : IntKind.i64.wrap ((u : Int) - (o : Int)) = ((u - o : Nat) : Int) := by rw [IntKind.wrap_i64]; omega
          obtain ⟨uo, huo⟩ : ∃ uo, u - o = uo := ⟨_, rfl⟩
          rw [huo] at wd
          have HUO : Hid (u - o = uo) := huo
          obtain ⟨T, hT⟩ : ∃ T, there x s.fs = T := ⟨_, rfl⟩
          rw [hT] at lk cD
          clear huo hT
          go_wp2_with fail
          go_at_call 11
          refine cD.mono ?_
          rintro e w5 ⟨rfl, HH⟩
          obtain ⟨_, lk5⟩ := HDl.out.1 w5 HH.out.1
          obtain ⟨w6, hr6, s', hF⟩ := HH.out.2 0
          have HF : Hid (FlW w0 (m + 1) m sm K (j + 1) uo s' w6) := by unfold Hid; rw [← HUO.out]; exact hF
          clear cD lk hF
          cases T with
          | true =>
            rw [if_pos rfl]
            go_wp2
            go_round
            case rel => exact ⟨j + 1, uo, s', by omega, by go_num, rfl, by have := HUO.out; omega, HF.out⟩
            case measure => simp [intOf]; omega
          | false =>
            rw [if_neg (by decide)]
            go_wp2
            go_round
            case rel => exact ⟨j + 1, uo, s', by omega, by go_num, rfl, by have := HUO.out; omega, HF.out⟩
            case measure => simp [intOf]; omega
        · have g1 : (ed == 5) = false := by simpa using q1
          obtain ⟨o, ho1, ho2, HPt⟩ := fl_put HW1.out HOKP.out HJ.out HI.out HS5.out
          have cP := HPt.out
          clear HPt
          have wd : IntKind.i64.wrap ((u : Int) - (o : Int)) = ((u - o : Nat) : Int) := by rw [IntKind.wrap_i64]; omega
          have wa : IntKind.i64.wrap (((u - o : Nat) : Int) + (vn : Int)) = ((u - o + vn : Nat) : Int) := by have := HS5.out; rw [IntKind.wrap_i64]; omega
          obtain ⟨uo, huo⟩ : ∃ uo, u - o = uo := ⟨_, rfl⟩
          rw [huo] at wd wa cP
          obtain ⟨F, hF⟩ : ∃ F, uo + vn = F := ⟨_, rfl⟩
          rw [hF] at wa cP
          clear huo hF
          go_wp2_with fail
          go_at_call 10
          refine cP.mono ?_
          rintro e w5 ⟨rfl, HH⟩
          have hb5 : Below w0.heap.size w0 w5 := Upd.below HW1.out.h.b HH.out.1 (fun i k => by
            rcases k with k | k | k
            · rw [k]; exact HW1.out.h.p0
            · rw [k]; exact HW1.out.h.m0
            · cases k) HW1.out.h.b.size
          have d5 := (HA.out w5 hb5).c4
          dsimp only at d5
          have lk5 := HH.out.2.1
          clear cP hb5 d4 d0
          by_cases q2 : F ≤ K
          · rw [if_pos q2]
            have i2 : (F : Int) ≤ (K : Int) := by omega
            have HK := HH.out.2.2.1 q2
            have HKK : Hid (∀ nq, ∃ w'', (Instr.mapUpdate 41 (.map (some sm)) (.string x) (.int .i64 (vn : Int))).run Try.prog (w5.drewN nq) = .ok () w'' ∧ ∃ s', FlW w0 (m + 1) m sm K (j + 1) F s' w'') := HK
            clear HK HH
            go_wp2_with fail
            go_quiet (fail)
            revert nq; intro n1
            go_wp2_with fail
            go_quiet (fail)
            obtain ⟨wz, hr9, hz9'⟩ := HKK.out (n1 + nq)
            have hz9 : ∃ s', Hid (FlW w0 (m + 1) m sm K (j + 1) F s' wz) := hz9'
            have hr9 : (Instr.mapUpdate 41 (.map (some sm)) (.string x) (.int .i64 (vn : Int))).run Try.prog ((w5.drewN n1).drewN nq) = .ok () wz := by rw [drewN_two]; exact hr9
            clear hz9' wa wd lk5
            obtain ⟨s', HF⟩ : ∃ s', Hid (FlW w0 (m + 1) m sm K (j + 1) F s' wz) := hz9
            have c1 := on_used HF.out.h
            rw [HF.out.us] at c1
            have c2 := on_room HF.out.h
            rw [HF.out.us, HF.out.most] at c2
            have wk : IntKind.i64.wrap ((K : Int) - ((F : Nat) : Int)) = (K : Int) - ((F : Nat) : Int) := by rw [IntKind.wrap_i64]; omega
            have HU : Hid (F ≤ K) := q2
            obtain ⟨uu, huu⟩ : ∃ uu, F = uu := ⟨_, rfl⟩
            rw [huu] at c1 c2 wk HF HU
            try rw [huu]
            go_wp2_with fail
            go_at_call 15
            refine c1.mono ?_
            rintro e wy ⟨rfl, rfl⟩
            clear c1
            go_wp2_with fail
            go_at_call 17
            refine c2.mono ?_
            rintro e wy ⟨rfl, dn, rfl⟩
            clear c2 wk
            have c3 := on_files (HF.out.h.keep (bdn' _ dn))
            go_wp2_with fail
            go_at_call 14
            refine c3.mono ?_
            rintro e wx ⟨v1, M1, rfl, HH1⟩
            obtain ⟨ho1, hm1, hn1', hb1'⟩ := HH1.out
            obtain ⟨a1, c1', rfl, hs1⟩ := ho1.ss
            have hl1 : M1.length = s'.fs.length := by simpa using congrArg List.length hm1
            have zz := (HF.out.z.upd (M := fun _ => False) (Upd.of (bdn' _ dn)) id).upd (M := fun _ => False) (Upd.of hb1') id
            have ml := zz.len 3
            have ml0 := zz.len 0
            rw [← hl1] at ml ml0
            have HE : Hid (FlW w0 (m + 1) m sm K (j + 1) uu s' wx) := ⟨hn1', zz, HF.out.off, HF.out.bad, HF.out.most, HF.out.us, HF.out.ln, HF.out.ne⟩
            clear c3 HH1 ho1 hm1 hn1' hb1' hs1 hl1 zz
            go_wp2
            go_round
            case rel => exact ⟨j + 1, uu, s', by omega, by go_num, by first | rfl | (rw [← huu]), HU.out, HE.out⟩
            case measure => simp [intOf]; omega
          · rw [if_neg q2]
            have i2 : decide ((F : Int) ≤ (K : Int)) = false := decide_eq_false (by omega)
            have HK : Hid (FlW w0 (m + 1) m sm K (j + 1) u s w5) := HH.out.2.2.2 q2
            clear HH
            go_wp2_with fail
            go_quiet (fail)
            obtain ⟨wz, hwz⟩ : ∃ wz, w5.drewN nq = wz := ⟨_, rfl⟩
            have hz9 : ∃ s', Hid (FlW w0 (m + 1) m sm K (j + 1) u s' wz) := ⟨s, by
              rw [← hwz]
              exact ⟨HK.out.h.keep (bdn' _ nq), HK.out.z.upd (M := fun _ => False) (Upd.of (bdn' _ nq)) id, HK.out.off, HK.out.bad, HK.out.most, HK.out.us, HK.out.ln, HK.out.ne⟩⟩
            rw [hwz]
            clear wa wd lk5 hwz
            obtain ⟨s', HF⟩ : ∃ s', Hid (FlW w0 (m + 1) m sm K (j + 1) u s' wz) := hz9
            have c1 := on_used HF.out.h
            rw [HF.out.us] at c1
            have c2 := on_room HF.out.h
            rw [HF.out.us, HF.out.most] at c2
            have wk : IntKind.i64.wrap ((K : Int) - ((u : Nat) : Int)) = (K : Int) - ((u : Nat) : Int) := by rw [IntKind.wrap_i64]; omega
            have HU : Hid (u ≤ K) := hu
            obtain ⟨uu, huu⟩ : ∃ uu, u = uu := ⟨_, rfl⟩
            rw [huu] at c1 c2 wk HF HU
            try rw [huu]
            go_wp2_with fail
            go_at_call 15
            refine c1.mono ?_
            rintro e wy ⟨rfl, rfl⟩
            clear c1
            go_wp2_with fail
            go_at_call 17
            refine c2.mono ?_
            rintro e wy ⟨rfl, dn, rfl⟩
            clear c2 wk
            have c3 := on_files (HF.out.h.keep (bdn' _ dn))
            go_wp2_with fail
            go_at_call 14
            refine c3.mono ?_
            rintro e wx ⟨v1, M1, rfl, HH1⟩
            obtain ⟨ho1, hm1, hn1', hb1'⟩ := HH1.out
            obtain ⟨a1, c1', rfl, hs1⟩ := ho1.ss
            have hl1 : M1.length = s'.fs.length := by simpa using congrArg List.length hm1
            have zz := (HF.out.z.upd (M := fun _ => False) (Upd.of (bdn' _ dn)) id).upd (M := fun _ => False) (Upd.of hb1') id
            have ml := zz.len 3
            have ml0 := zz.len 0
            rw [← hl1] at ml ml0
            have HE : Hid (FlW w0 (m + 1) m sm K (j + 1) uu s' wx) := ⟨hn1', zz, HF.out.off, HF.out.bad, HF.out.most, HF.out.us, HF.out.ln, HF.out.ne⟩
            clear c3 HH1 ho1 hm1 hn1' hb1' hs1 hl1 zz
            go_wp2
            go_round
            case rel => exact ⟨j + 1, uu, s', by omega, by go_num, by first | rfl | (rw [← huu]), HU.out, HE.out⟩
            case measure => simp [intOf]; omega
      · have hjn : j = L.length := by omega
        subst hjn
        have ij : decide ((L.length : Int) < (L.length : Int)) = false := by simp
        have HB : Hid (Below w0.heap.size w0 wr) := hb
        clear hlt hb HW
        go_wp2
        go_ret
        exact ⟨rfl, HB.out⟩


set_option maxRecDepth 100000 in
theorem lifted (os : Os) (started : os.Started) (H : Type) (enc : TypeId × Value → H) :
    ReturnsInHanded {} Try.checked os 4 .any (Rows.diskFullSpec.pre6 enc Try.prog Try.f4 Rows.diskFullRow.domain false) (Rows.diskFullSpec.post enc Try.prog Try.f4 false true false false) := by
  refine returnsInHanded_of_change_sized (C := Try.checked) own started (by kernel_rfl) Try.func4
    (ChangeSpec.witness6 (enc := enc) (C := Try.checked) false ⟨#[], #[.int .u16 0, .slice none 0 0], []⟩ 8 (by kernel_rfl) (by kernel_rfl) (by kernel_rfl) (by kernel_rfl)) ?_
  intro W base args ds gs before hval0 hW hcnd hsz0 _
  have hval : ∀ (j : Nat) t v, Try.f4.params[j]? = some t → args[j]? = some v → Value.okWide Try.prog W .any base t v := hval0
  have hsz : (DataW.weightsEach Try.prog (Try.f4.params.toList ++ Rows.diskFullSpec.plain.varTypes Try.prog) (ds ++ gs)).all (· ≤ reachBytes) = true := hsz0
  have hW' := hW
  obtain ⟨p, q, hA0, hV, rfl, hfz, hnd⟩ := hW
  have hA : DataW.TrodAll enc Try.prog W 0 (fun _ => true) true Try.f4.params.toList args.toList ds p := hA0
  rw [Try.params4] at hA hval hsz
  obtain ⟨v0, vs0, d0, ds0, p0, q0, hargs, rfl, rfl, h0, r0⟩ := trodAll_cons hA
  obtain ⟨v1, vs1, d1, ds1, p1, q1, rfl, rfl, rfl, h1, r1⟩ := trodAll_cons r0
  obtain ⟨rfl, rfl, rfl⟩ := trodAll_nil r1
  obtain rfl : args = #[v0, v1] := by cases args; simp_all
  obtain ⟨rfl, rfl⟩ := trodVars_none hV
  have k0 := h0
  have lt0 : ∀ x ∈ p0, x.block < W.heap.size := by obtain ⟨m, hm⟩ := k0; exact DataW.trod_lt m _ _ _ hm
  obtain ⟨y0, rfl, _, _, w0⟩ := open_int Try.underlying40 (hval 0 40 v0 rfl rfl) h0
  have e0 : 0 ≤ y0 ∧ y0 ≤ 65535 := by simpa [Lit.wf, IntKind.min, IntKind.max, IntKind.signed, IntKind.bits] using w0
  obtain ⟨x0, rfl⟩ : ∃ x : Nat, y0 = (x : Int) := ⟨y0.toNat, by omega⟩
  have k1 := h1
  have lt1 : ∀ x ∈ p1, x.block < W.heap.size := by obtain ⟨m, hm⟩ := k1; exact DataW.trod_lt m _ _ _ hm
  obtain ⟨a1, c1, L1, rfl, m1, z1, e1, g1⟩ := open_deeds (hval 1 22 v1 rfl rfl) h1
  clear hA0 hval0 hsz0
  refine (core x0 a1 c1 L1 W (by omega) m1 z1 e1 g1).mono fun e W' ⟨he, bel⟩ => ?_
  subst he
  exact ⟨_, rfl, _, _, _, [], _, [], hW', trodAll_mk1 (shut_bool Try.underlying4 _), (trodAll_cons_mk (Below.trod laidOut (by kernel_rfl) (of_decide_eq_true (by kernel_rfl)) k0 bel lt0) (trodAll_cons_mk (Below.trod laidOut (by kernel_rfl) (of_decide_eq_true (by kernel_rfl)) k1 bel lt1) trodAll_mk0)), rfl, bel.frame _, fun h => by cases h⟩

theorem over : Rows.diskFullRow.holds Try.pinned (OpenSpec.ofChange Rows.diskFullSpec) :=
  OpenClaim.holds_of_wide 4 Try.f4 rfl rfl rfl rfl rfl rfl rfl ⟨rfl, rfl, rfl, rfl, rfl⟩ rfl rfl rfl rfl rfl (by kernel_rfl) Try.func4 (by kernel_rfl)
    (of_decide_eq_true (by kernel_rfl)) (by unfold Func.isWrapper; first | (rw [if_pos (by decide +kernel)]; kernel_rfl) | (rw [if_neg (by decide +kernel)]; exact ⟨rfl, rfl⟩))
    (fun os started H enc _ => lifted os started H enc)

end diskFull

/-- The statement. -/
theorem diskFull_holds : Rows.DiskFullSaid := diskFull.over
#print axioms diskFull_holds
end Go.Proofs.Ythkhkijdehbbmab
