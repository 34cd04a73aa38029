/-
  What was synced is whole behind a crash; what was not is a beginning of what was written; names are as they were: whatever deeds came before.
-/
import Derived.Test.YthkhkijdehbbmaaRows
import Derived.WalkKit
import Derived.ProofKit
import Derived.OpenShut
import Derived.ShutString
import Derived.ChangeOld
import Derived.Below
import Derived.SizedLaws
import Derived.ChangeSame
import Derived.ChangeMaps5
import Derived.Test.YthkhkijdehbbmaaSdG
import Derived.Test.YthkhkijdehbbmaaByt
import Derived.Test.YthkhkijdehbbmaaSmTr
set_option maxRecDepth 100000
namespace Go.Proofs.Ythkhkijdehbbmaa
namespace diskCrash
open Go.ChangeShapes Go.WideShapes Go.ChangeAt Go.RowKit
open _root_.Go.Proofs.Ythkhkijdehbbmaa.Nm _root_.Go.Proofs.Ythkhkijdehbbmaa.Dk
set_option linter.unusedVariables false
attribute [local go_sem ↓] Go.wp_at_zero Go.wp_at_succ

theorem own : ownKnob Try.prog.godebug = none := by kernel_rfl
theorem laidOut : laidOutB Try.prog = true := by kernel_rfl

/-- The round's relation. -/
structure ReW (W0 : World) (p m d j : Nat) (s : St) (w : World) : Prop where
  on : On W0 w p m none s none
  dx : Dx W0 w d none s none
  nx : Nx (newSt 5000) s
theorem zbN' : Zb none := fun y e => by cases e
/-- What has been looked at. -/
structure CrL (y1 : World) (j : Nat) (Ns : List Sv) (Ts : List Tv) (vD vB : Value) (s : St) (w : World) : Prop where
  b : Below y1.heap.size y1 w
  n : SOwn w y1.heap.size vD Ns
  t : TOwn w y1.heap.size vB Ts
  en : (Ns.map fun y => y.s) = (s.fs.take j).map fun f => f.b
  et : (Ts.map fun y => y.t) = (s.fs.take j).map fun f => f.sure
theorem CrL.keep {y1 w w' : World} {j : Nat} {Ns : List Sv} {Ts : List Tv} {vD vB : Value} {s : St} (h : CrL y1 j Ns Ts vD vB s w) (k : Below w.heap.size w w') : CrL y1 j Ns Ts vD vB s w' :=
  ⟨h.b.trans (k.mono h.b.size), h.n.keep k, h.t.keep k, h.en, h.et⟩
theorem CrL.push {y1 w : World} {j : Nat} {Ns : List Sv} {Ts : List Tv} {vD vB : Value} {s : St} (h : CrL y1 j Ns Ts vD vB s w) (hj : j < s.fs.length) (hl : s.fs.length ≤ 4096) {D : ByteArray} {su : Bool} (hD : s.fs[j].b = D) (hS : s.fs[j].sure = su) :
    ∃ vD' W1 vB' W3, Sem.run Try.prog (Builtin.append_ #[36, 36] 36 #[vD, .slice (some ⟨w.heap.size, 0, none⟩) 1 1]) (w.alloc (.cells #[.string D] 9)) = .ok vD' W1 ∧
      Sem.run Try.prog (Builtin.append_ #[58, 58] 58 #[vB, .slice (some ⟨W1.heap.size, 0, none⟩) 1 1]) (W1.alloc (.cells #[.bool su] 4)) = .ok vB' W3 ∧ Hid (CrL y1 (j + 1) (Ns ++ [⟨D⟩]) (Ts ++ [⟨su⟩]) vD' vB' s W3) := by
  have l1 : Ns.length = j := by have := congrArg List.length h.en; simp at this; omega
  have l2 : Ts.length = j := by have := congrArg List.length h.et; simp at this; omega
  have b1 : Below w.heap.size w (w.alloc (.cells #[.string D] 9)) := bal _ _
  have h1 := h.keep b1
  obtain ⟨vD', W1, r1, o1, g1, c1⟩ := appendS (a := some ⟨w.heap.size, 0, none⟩) (c := 1) h1.n (litS w ⟨D⟩) (fun e => by cases e) (by show Ns.length + 1 ≤ _; omega) h1.b.size
  have d1 := h1.b.trans c1
  have u1 := grown_upd g1
  have t1 := town_upd h1.t u1 (fun g cur e k => by
    obtain ⟨_, cur', h9⟩ := h1.n.at_block k
    rw [h9] at e
    injection e with e
    injection e with _ e _
    exact absurd e (by decide))
  have b2 : Below W1.heap.size W1 (W1.alloc (.cells #[.bool su] 4)) := bal _ _
  have d2 := d1.trans (b2.mono d1.size)
  have t2 := t1.keep b2
  have n2 := o1.keep b2
  obtain ⟨vB', W3, r3, o3, g3, c3⟩ := appendT (a := some ⟨W1.heap.size, 0, none⟩) (c := 1) t2 (litT W1 ⟨su⟩) (fun e => by cases e) (by show Ts.length + 1 ≤ _; omega) d2.size
  have u3 := grown_upd g3
  have n3 := sown_upd n2 u3 (fun g cur e k => by
    obtain ⟨_, cur', h9⟩ := t2.at_block k
    rw [h9] at e
    injection e with e
    injection e with _ e _
    exact absurd e (by decide))
  refine ⟨vD', W1, vB', W3, r1, r3, d2.trans c3, n3, o3, ?_, ?_⟩
  · rw [List.map_append, h.en, ← List.take_append_getElem hj, List.map_append]
    show _ ++ [D] = _ ++ [s.fs[j].b]
    rw [hD]
  · rw [List.map_append, h.et, ← List.take_append_getElem hj, List.map_append]
    show _ ++ [su] = _ ++ [s.fs[j].sure]
    rw [hS]
/-- A file's path, and what stands there. -/
theorem on_file {w0 w : World} {p m : Nat} {q : Option Nat} {s : St} {z : Option Fz} (h : On w0 w p m q s z) {i : Nat} (hi : i < s.fs.length) : there s.fs[i].path s.fs = true ∧ fileL s.fs[i].path s.fs = s.fs[i] ∧ s.fs[i].path.size ≤ 600 ∧ s.fs[i].b.size ≤ 262144 := by
  obtain ⟨V, F, x⟩ := h.px
  have hm : s.fs[i] ∈ s.fs := List.getElem_mem hi
  obtain ⟨f9, hf9⟩ : ∃ f9, s.fs[i] = f9 := ⟨_, rfl⟩
  rw [hf9] at hm ⊢
  have h1 := x.wf.p _ hm
  have h2 := x.wf.b _ hm
  rw [x.f] at hm ⊢
  obtain ⟨f, hf, e⟩ := List.mem_map.1 hm
  obtain ⟨k1, k2⟩ := there_mem x.r hf (x := f9.path) (by rw [← e]; rfl)
  exact ⟨k1, k2.trans e, h1, h2⟩
theorem row_at {α β γ : Type} [Inhabited α] (g : α → γ) (k : β → γ) {M : List α} {l : List β} (hM : (M.map g) = l.map k) {i : Nat} (hi : i < l.length) : i < M.length ∧ g M[i]! = k l[i] := by
  have hl : i < M.length := by have := congrArg List.length hM; simp at this; omega
  refine ⟨hl, ?_⟩
  have h9 := congrArg (fun l => l[i]?) hM
  simp only [List.getElem?_map] at h9
  rw [List.getElem?_eq_getElem hi, List.getElem?_eq_getElem hl] at h9
  rw [getElem!_pos M i hl]
  simpa using h9
theorem crF_is (K : Nat) (f : Fl) : (crF K f).sure = true ∧ (crF K f).path = f.path ∧ ∃ k, k ≤ f.b.size ∧ (crF K f).b = f.b.extract 0 k ∧ (f.sure = true → k = f.b.size) := by
  unfold crF
  split
  · next e => exact ⟨e, rfl, f.b.size, Nat.le_refl _, by simp, fun _ => rfl⟩
  · next e =>
    refine ⟨rfl, rfl, _, ?_, rfl, fun h => absurd h e⟩
    have := Nat.mod_lt K (show 0 < f.b.size + 1 by omega)
    omega
theorem crash_paths (k : Int) (l : List Fl) : ((crashS k l).map fun f => f.path) = l.map fun f => f.path := by
  unfold crashS
  rw [List.map_map]
  exact List.map_congr_left fun f _ => (crF_is _ f).2.1
set_option maxHeartbeats 8000000 in
theorem core (a : Option Addr) (c : Nat) (L : List Dd) (ke : Int) (W0 : World) (hD : Ds W0 a L) (hz : a = none → L.length = 0 ∧ c = 0) (hl : L.length ≤ maxLen) (hok : ∀ i, i < L.length → Dok L[i]!) (hk0 : -9223372036854775808 ≤ ke) (hk1 : ke ≤ 9223372036854775807) :
    Calls Try.prog 5 #[.slice a L.length c, .int .i64 ke] W0 fun e w' => e = .returned (.bool true) ∧ Below W0.heap.size W0 w' := by
  have cA := awake_any W0
  have HD : Hid (Ds W0 a L) := hD
  have HOK : Hid (∀ i, i < L.length → Dok L[i]!) := hok
  clear hD hok
  go_enter Try.func5, Try.ntmps5
  go_wp2_with fail
  go_at_call 9
  refine cA.mono ?_
  rintro e w ⟨rfl, b0⟩
  clear cA
  have HB0 : Hid (Below W0.heap.size W0 w) := b0
  have cR := room_any a c L 80 w (HD.out.keep b0) hl
  clear b0
  go_wp2_with fail
  go_at_call 24
  refine cR.mono ?_
  rintro e w ⟨rfl, rfl⟩
  clear cR
  cases hR : roomB L 80 with
  | false =>
    go_wp2
    go_ret
    exact ⟨rfl, HB0.out⟩
  | true =>
    obtain ⟨hlen, hsm⟩ := roomB_out hR
    have HSM : Hid (∀ i, i < L.length → L[i]!.a.size ≤ 1000 ∧ L[i]!.b.size ≤ 1000 ∧ L[i]!.v.2.1 ≤ 5000) := hsm
    clear hR hsm
    have cW := on_new W0 w HB0.out none none trivial (fun j e => by cases e) 5000 (by decide) (by decide)
    dsimp only [Option.map] at cW
    go_wp2_with fail
    go_at_call 11
    refine cW.mono ?_
    rintro e x1 ⟨rfl, h1, _⟩
    obtain ⟨m, hm⟩ : ∃ m, w.heap.size = m := ⟨_, rfl⟩
    rw [hm] at h1
    have HO1 : Hid (On W0 x1 (m + 1) m none (newSt 5000) none) := h1
    have cV := dx_new W0 x1 h1.b none none trivial (fun j e => by cases e) 5000 (by decide) (by decide)
    dsimp only [Option.map] at cV
    clear cW h1
    go_wp2_with fail
    go_at_call 25
    refine cV.mono ?_
    rintro e x2 ⟨rfl, h2, b2⟩
    obtain ⟨d, hd⟩ : ∃ d, x1.heap.size = d := ⟨_, rfl⟩
    rw [hd] at h2
    have HW0 : Hid (ReW W0 (m + 1) m d 0 (newSt 5000) x2) := ⟨HO1.out.keep b2, h2, Nx.refl _⟩
    clear cV h2 b2
    go_wp2_with fail
    go_loopw [7] (fun i wr => ∃ (j : Nat) (s : St), j ≤ L.length ∧ i = .int .i64 j ∧ ReW W0 (m + 1) m d j s wr) (fun i _ => L.length - (intOf i).toNat)
    case atStart => exact ⟨0, newSt 5000, by omega, rfl, HW0.out⟩
    case round =>
      obtain ⟨j, s, hj, rfl, hW⟩ := hrel
      have HW : Hid (ReW W0 (m + 1) m d j s wr) := hW
      have hb := hW.on.b
      clear hW
      by_cases hlt : j < L.length
      · have ij : (j : Int) < (L.length : Int) := by omega
        obtain ⟨bb, oo, rfl, hA⟩ := (HD.out.keep hb) (by omega)
        have t0 := (hA j hlt).c0
        have t1 := (hA j hlt).c1
        have t2 := (hA j hlt).c2
        have t3 := (hA j hlt).c3
        have t4 := (hA j hlt).c4
        have hs := HSM.out j hlt
        have hi0 := (HD.out (by omega))
        have HI : Hid (Inp W0 L[j]!.v.1 L[j]!.v.2.1 L[j]!.v.2.2 L[j]!.x) := by
          obtain ⟨_, _, _, hA0⟩ := hi0
          exact (hA0 j hlt).i
        obtain ⟨e, he⟩ : ∃ e, L[j]! = e := ⟨_, rfl⟩
        rw [he] at t0 t1 t2 t3 t4 hs HI
        obtain ⟨ed, en, ea, eb, ⟨va, vn, vc⟩, ex⟩ := e
        dsimp only at t0 t1 t2 t3 t4 hs HI
        clear hA he hi0
        have HMORE : Hid (ReW W0 (m + 1) m d (j + 1) s wr) := ⟨HW.out.on, HW.out.dx, HW.out.nx⟩
        by_cases q0 : 0 ≤ ed
        · by_cases q1 : ed ≤ 6
          · have K : Hid (Calls Try.prog 26 #[.pointer (some ⟨m + 1, 0, none⟩), .pointer none, .pointer (some ⟨d, 0, none⟩), .agg #[.int .i64 ed, .int .i64 en, .string ea, .string eb, .slice va vn vc]] wr fun e w' => e = .returned (.bool true) ∧ ∃ s', Hid (ReW W0 (m + 1) m d (j + 1) s' w')) := by
              refine (both_any W0 wr (m + 1) m d none none s none (.pointer none) ed en ea eb va vn vc ex HW.out.on HW.out.dx zbN' (by unfold maxLen; omega) (by unfold maxLen; omega) HI.out (by unfold maxLen; omega) q0 q1).mono ?_
              rintro e w' ⟨rfl, s', h9⟩
              exact ⟨rfl, s', h9.out.1, h9.out.2.1, HW.out.nx.trans h9.out.2.2⟩
            clear hs
            go_wp2_with fail
            go_at_call 26
            refine K.out.mono ?_
            rintro e w5 ⟨rfl, s', H5⟩
            clear K
            go_wp2_with fail
            go_round
            case rel => exact ⟨j + 1, s', by omega, by go_num, H5.out⟩
            case measure => simp [intOf]; omega
          · have i2 : decide (ed ≤ 6) = false := decide_eq_false q1
            clear hs q1
            go_wp2_with fail
            go_round
            case rel => exact ⟨j + 1, s, by omega, by go_num, HMORE.out⟩
            case measure => simp [intOf]; omega
        · have i1 : decide (0 ≤ ed) = false := decide_eq_false q0
          clear hs q0
          go_wp2_with fail
          go_round
          case rel => exact ⟨j + 1, s, by omega, by go_num, HMORE.out⟩
          case measure => simp [intOf]; omega
      · have hjn : j = L.length := by omega
        subst hjn
        have ij : decide ((L.length : Int) < (L.length : Int)) = false := by simp
        clear hlt hb
        have cF := on_files HW.out.on
        go_wp2_with fail
        go_at_call 28
        refine cF.mono ?_
        rintro e y1 ⟨v1, M1, rfl, H1⟩
        clear cF
        obtain ⟨a1, c1, rfl, hss⟩ := H1.out.1.ss
        have HM : Hid ((M1.map fun y => y.s) = s.fs.map fun f => f.path) := H1.out.2.1
        have HO : Hid (On W0 y1 (m + 1) m none s none) := H1.out.2.2.1
        have HNX : Hid (Nx (newSt 5000) s) := HW.out.nx
        have HSS : Hid (Ss y1 a1 M1) := hss
        have HM1 : Hid (∃ base, SOwn y1 base (.slice a1 M1.length c1) M1) := ⟨_, H1.out.1⟩
        clear H1 hss HW
        have hnl : M1.length = s.fs.length := by have := congrArg List.length HM.out; simpa using this
        have h4 := on_len HO.out
        obtain ⟨n, hn⟩ : ∃ n, M1.length = n := ⟨_, rfl⟩
        have HN : Hid (M1.length = n ∧ s.fs.length = n) := ⟨hn, by omega⟩
        have hn4 : n ≤ 4096 := by omega
        rw [hn]
        have HC0 : Hid (CrL y1 0 [] [] (.slice none 0 0) (.slice none 0 0) s y1) := ⟨Below.refl _ _, SOwn.start _ _, TOwn.start _ _, rfl, rfl⟩
        clear hn hnl h4
        go_wp2_with fail
        go_loopw [9, 10, 11] (fun vD vB i wr => ∃ (j : Nat) (Ns : List Sv) (Ts : List Tv), j ≤ n ∧ i = .int .i64 j ∧ CrL y1 j Ns Ts vD vB s wr) (fun _ _ i _ => n - (intOf i).toNat)
        case atStart => exact ⟨0, [], [], Nat.zero_le _, rfl, HC0.out⟩
        case round =>
          obtain ⟨j, Ns, Ts, hj, rfl, hC⟩ := hrel
          have HC : Hid (CrL y1 j Ns Ts u9 u10 s wr) := hC
          clear hC
          by_cases hlt : j < n
          · have ij : (j : Int) < (n : Int) := by omega
            have hjl : j < s.fs.length := by have := HN.out.2; omega
            obtain ⟨f1, f2, f3, f4⟩ := on_file HO.out hjl
            obtain ⟨m1, m2⟩ := row_at (fun y : Sv => y.s) (fun f : Fl => f.path) HM.out hjl
            obtain ⟨b1, o1, rfl, hA1⟩ := (HSS.out.keep HC.out.b) (by omega)
            have t1 := (hA1 j m1).c0
            rw [Nat.mul_one] at t1
            have m3 : M1[j]!.s = s.fs[j].path := m2
            rw [m3] at t1
            obtain ⟨fj, hfj⟩ : ∃ fj, s.fs[j] = fj := ⟨_, rfl⟩
            rw [hfj] at f1 f2 f3 f4 t1
            have cL := on_look (HO.out.keep HC.out.b) (x := fj.path) (by unfold maxLen; omega)
            rw [f1, f2] at cL
            have HL : Hid (∃ h : j < s.fs.length, s.fs[j] = fj) := ⟨hjl, hfj⟩
            clear f1 f2 f3 f4 m1 m2 m3 hA1 hjl hfj
            obtain ⟨fp, D, su⟩ := fj
            dsimp only at cL t1
            go_wp2_with fail
            go_at_call 29
            refine cL.mono ?_
            rintro e w5 ⟨la, ln, lc, rfl, H5⟩
            have cv := H5.out.1.conv
            have HC5 := HC.out.keep H5.out.2.2
            obtain ⟨hjl, hfj⟩ := HL.out
            obtain ⟨vD', W1, vB', W3, r1, r3, HC6⟩ := HC5.push hjl (by have := HN.out.2; omega) (D := D) (su := su) (by rw [hfj]) (by rw [hfj])
            have HR1 : Hid (Sem.run Try.prog (Builtin.append_ #[36, 36] 36 #[u9, .slice (some ⟨w5.heap.size, 0, none⟩) 1 1]) (w5.alloc (.cells #[.string D] 9)) = .ok vD' W1) := r1
            have HR3 : Hid (Sem.run Try.prog (Builtin.append_ #[58, 58] 58 #[u10, .slice (some ⟨W1.heap.size, 0, none⟩) 1 1]) (W1.alloc (.cells #[.bool su] 4)) = .ok vB' W3) := r3
            clear cL H5 HC5 HL hjl hfj r1 r3 t1
            go_wp2_with (at_builtin; first | refine wpList_append_ran (by rfl) _ _ 36 (by rfl) _ _ _ _ (by rfl) (by rfl) HR1.out ?_ | refine wpList_append_ran (by rfl) _ _ 58 (by rfl) _ _ _ _ (by rfl) (by rfl) HR3.out ?_)
            go_round
            case rel => exact ⟨j + 1, _, _, by omega, by go_num, HC6.out⟩
            case measure => simp [intOf]; omega
          · have hjn : j = n := by omega
            subst hjn
            have ij : decide ((j : Int) < (j : Int)) = false := by simp
            clear hlt
            have HNT : Hid (Ns.length = j ∧ Ts.length = j) := by
              have e1 := congrArg List.length HC.out.en
              have e2 := congrArg List.length HC.out.et
              have e3 := HN.out.2
              simp at e1 e2
              exact ⟨by omega, by omega⟩
            have HEN : Hid ((Ns.map fun y => y.s) = (s.fs.map fun f => f.b) ∧ (Ts.map fun y => y.t) = s.fs.map fun f => f.sure) := by
              have e1 := HC.out.en
              have e2 := HC.out.et
              rw [← HN.out.2, List.take_length] at e1 e2
              exact ⟨e1, e2⟩
            have ho2 := HO.out.keep HC.out.b
            obtain ⟨bD, cD⟩ : ∃ base, SOwn wr base u9 Ns := ⟨_, HC.out.n⟩
            have cC := on_crash ho2 (k := ke) hk0 hk1
            have CC : Hid (Calls Try.prog 14 #[.pointer (some ⟨m + 1, 0, none⟩), .int .i64 ke] wr fun e y3 => e = .returned (.tuple #[]) ∧ Hid (Calls Try.prog 28 #[.pointer (some ⟨m + 1, 0, none⟩)] y3 fun e y4 => ∃ a2 c2 M2, e = .returned (.slice a2 j c2) ∧ Hid (Calls Try.prog 30 #[.slice a1 j c1, .slice a2 j c2] y4 fun e y5 => e = .returned (.bool true) ∧ Hid (On W0 y5 (m + 1) m none { s with fs := crashS ke s.fs } none ∧ (∃ base, SOwn y5 base u9 Ns) ∧ (∃ base, TOwn y5 base u10 Ts) ∧ Ss y5 a2 M2 ∧ M2.length = j ∧ (M2.map fun y => y.s) = s.fs.map fun f => f.path)))) := by
              obtain ⟨base1, hm1⟩ := HM1.out
              have hm2 := hm1.keep HC.out.b
              refine (on_crash ho2 (k := ke) hk0 hk1).mono ?_
              rintro e y3 ⟨rfl, o3, u3⟩
              have n3 := sown_upd HC.out.n u3 (fun g cur e => ms_not ho2 e (by decide))
              have t3 := town_upd HC.out.t u3 (fun g cur e => ms_not ho2 e (by decide))
              have m3 := sown_upd hm2 u3 (fun g cur e => ms_not ho2 e (by decide))
              refine ⟨rfl, ?_⟩
              refine (on_files o3).mono ?_
              rintro e y4 ⟨v4, M2, rfl, H4⟩
              obtain ⟨k1, k2, k3, k4⟩ := H4.out
              have k2 : (M2.map fun y => y.s) = (crashS ke s.fs).map fun f => f.path := k2
              rw [crash_paths] at k2
              have hl2 : M2.length = j := by
                have e1 := congrArg List.length k2
                have e2 := HN.out.2
                simp at e1
                omega
              obtain ⟨a2, c2, rfl, s2⟩ := k1.ss
              obtain ⟨a1', c1', e9, s1⟩ := (m3.keep k4).ss
              injection e9 with e7 e6 e8
              rw [← e7] at s1
              refine ⟨a2, c2, M2, by rw [hl2], ?_⟩
              have cT := texts_any a1 c1 M1 a2 c2 M2 y4 s1 s2 (by have := HN.out.1; omega) (by omega)
              rw [HN.out.1, hl2] at cT
              refine cT.mono ?_
              rintro e y5 ⟨rfl, nd, rfl⟩
              refine ⟨by rw [HM.out, k2]; simp, k3.keep (bdn' _ _), ⟨_, (n3.keep k4).keep (bdn' _ _)⟩, ⟨_, (t3.keep k4).keep (bdn' _ _)⟩, s2.keep (bdn' _ _), hl2, k2⟩
            have HFS : Hid (s.fs.length = j) := HN.out.2
            clear ho2 cC bD cD HC HN HM HM1 HO HSS
            obtain ⟨K, hK⟩ : ∃ K, crashS ke s.fs = s.fs.map (crF K) := ⟨_, rfl⟩
            have HKK : Hid (crashS ke s.fs = s.fs.map (crF K)) := hK
            clear hK
            go_wp2_with fail
            go_at_call 14
            refine CC.out.mono ?_
            rintro e y3 ⟨rfl, C2⟩
            clear CC
            go_wp2_with fail
            go_at_call 28
            refine C2.out.mono ?_
            rintro e y4 ⟨a2, c2, M2, rfl, C3⟩
            clear C2
            go_wp2_with fail
            go_at_call 30
            refine C3.out.mono ?_
            rintro e y5 ⟨rfl, C4⟩
            clear C3
            obtain ⟨bN, hbN⟩ := C4.out.2.1
            obtain ⟨aN, cN, rfl, _⟩ := hbN.ss
            obtain ⟨bT, hbT⟩ := C4.out.2.2.1
            obtain ⟨aT, cT, rfl, _⟩ := hbT.ts
            clear hbN hbT
            rw [HNT.out.1, HNT.out.2] at C4
            rw [HNT.out.1, HNT.out.2]
            go_wp2_with fail
            go_loopw [16] (fun i wr => ∃ i0 : Nat, i0 ≤ j ∧ i = .int .i64 i0 ∧ Below y5.heap.size y5 wr) (fun i _ => j - (intOf i).toNat)
            case atStart => exact ⟨0, Nat.zero_le _, rfl, Below.refl _ _⟩
            case round =>
              obtain ⟨i0, hi0, rfl, hbel⟩ := hrel
              have HBE : Hid (Below y5.heap.size y5 wr) := hbel
              clear hbel
              by_cases hlt : i0 < j
              · have ij : (i0 : Int) < (j : Int) := by omega
                obtain ⟨g1, ⟨bN', g2⟩, ⟨bT', g3⟩, g4, g5, g6⟩ := C4.out
                have o5 := g1.keep HBE.out
                have hi1 : i0 < s.fs.length := by rw [HFS.out]; exact hlt
                have hi2 : i0 < ({ s with fs := crashS ke s.fs } : St).fs.length := by
                  show i0 < (crashS ke s.fs).length
                  rw [HKK.out, List.length_map]; exact hi1
                obtain ⟨f1, f2, f3, f4⟩ := on_file o5 hi2
                have hcr : ({ s with fs := crashS ke s.fs } : St).fs[i0] = crF K s.fs[i0] := by
                  show (crashS ke s.fs)[i0]'hi2 = _
                  have : (crashS ke s.fs)[i0]? = some (crF K s.fs[i0]) := by rw [HKK.out, List.getElem?_map, List.getElem?_eq_getElem hi1]; rfl
                  rw [List.getElem?_eq_getElem hi2] at this
                  injection this
                rw [hcr] at f1 f2 f3 f4
                obtain ⟨e1, e2, k, e3, e4, e5⟩ := crF_is K s.fs[i0]
                obtain ⟨m1, m2⟩ := row_at (fun y : Sv => y.s) (fun f : Fl => f.path) g6 hi1
                obtain ⟨n1, n2⟩ := row_at (fun y : Sv => y.s) (fun f : Fl => f.b) HEN.out.1 hi1
                obtain ⟨t1, t2⟩ := row_at (fun y : Tv => y.t) (fun f : Fl => f.sure) HEN.out.2 hi1
                obtain ⟨bm, om, rfl, hAm⟩ := (g4.keep HBE.out) (by omega)
                have c0 := (hAm i0 m1).c0
                have m3 : M2[i0]!.s = s.fs[i0].path := m2
                rw [Nat.mul_one, m3, ← e2] at c0
                have n3 : Ns[i0]!.s = s.fs[i0].b := n2
                have t3 : Ts[i0]!.t = s.fs[i0].sure := t2
                have cL := on_look o5 (x := (crF K s.fs[i0]).path) (by unfold maxLen; omega)
                rw [f1, f2, e1, e4] at cL
                obtain ⟨px, hpx⟩ : ∃ px, (crF K s.fs[i0]).path = px := ⟨_, rfl⟩
                obtain ⟨D, hDD⟩ : ∃ D, s.fs[i0].b = D := ⟨_, rfl⟩
                obtain ⟨su, hsu⟩ : ∃ su, s.fs[i0].sure = su := ⟨_, rfl⟩
                rw [hDD] at e3 e5 cL n3
                rw [hsu] at e5 t3
                rw [hpx] at c0 cL
                have g2' := g2.keep HBE.out
                have HGN : Hid (∃ base, SOwn wr base (.slice aN j cN) Ns) := ⟨_, g2.keep HBE.out⟩
                have HGT : Hid (∃ base, TOwn wr base (.slice aT j cT) Ts) := ⟨_, g3.keep HBE.out⟩
                have HN3 : Hid (Ns[i0]!.s = D ∧ Ts[i0]!.t = su ∧ i0 < Ns.length ∧ i0 < Ts.length) := ⟨n3, t3, n1, t1⟩
                have HE5 : Hid (su = true → k = D.size) := e5
                clear g1 g2 g2' g3 g4 g5 g6 o5 hi1 f1 f2 f3 f4 hcr e1 e2 e4 e5 m1 m2 m3 n1 n2 n3 t1 t2 t3 hAm hpx hDD hsu
                clear hi2
                go_wp2_with fail
                go_at_call 29
                refine cL.mono ?_
                rintro e w5 ⟨la, ln, lc, rfl, H5⟩
                clear cL c0
                obtain ⟨i5, o5, b5⟩ := H5.out
                have hln := i5.len
                rw [ext_size D e3] at hln
                subst hln
                obtain ⟨bN, hN5⟩ := HGN.out
                obtain ⟨aN', cN', e9, sN⟩ := (hN5.keep b5).ss
                injection e9 with e7 e6 e8
                rw [← e7] at sN
                clear e6
                obtain ⟨bT, hT5⟩ := HGT.out
                obtain ⟨aT', cT', e9', sT⟩ := (hT5.keep b5).ts
                injection e9' with e7' e6' e8'
                rw [← e7'] at sT
                clear e6'
                obtain ⟨b1, o1, rfl, hA1⟩ := sN (by have := HN3.out.2.2.1; omega)
                obtain ⟨b2, o2, rfl, hA2⟩ := sT (by have := HN3.out.2.2.2; omega)
                have r1 := (hA1 i0 HN3.out.2.2.1).c0
                have r2 := (hA2 i0 HN3.out.2.2.2).c0
                rw [Nat.mul_one, HN3.out.1] at r1
                rw [Nat.mul_one, HN3.out.2.1] at r2
                have cv := fun n => (i5.keep (bdn' w5 n)).conv
                have HBE5 : Hid (Below y5.heap.size y5 w5) := HBE.out.trans (b5.mono HBE.out.size)
                have x1 : decide ((D.size : Int) < (ln : Int)) = false := decide_eq_false (by omega)
                have x2 : decide (D.size < ln) = false := decide_eq_false (by omega)
                have x3 : (ln : Int) ≤ (D.size : Int) := by omega
                clear i5 o5 b5 hN5 e7 e8 sN hT5 e7' e8' sT hA1 hA2 HGN HGT HBE
                clear H5
                cases su with
                | true =>
                  have hk : ln = D.size := HE5.out rfl
                  subst hk
                  have hx : D.extract 0 D.size = D := by simp
                  have x4 : ((D.size : Int) != (D.size : Int)) = false := by simp
                  rw [hx] at cv
                  clear HE5
                  go_wp2_with fail
                  go_quiet (fail)
                  go_wp2
                  go_round
                  case rel => exact ⟨i0 + 1, by omega, by go_num, HBE5.out.trans ((bdn' _ _).mono HBE5.out.size)⟩
                  case measure => simp [intOf]; omega
                | false =>
                  clear HE5
                  go_wp2_with fail
                  go_quiet (fail)
                  go_wp2
                  go_round
                  case rel => exact ⟨i0 + 1, by omega, by go_num, HBE5.out.trans ((bdn' _ _).mono HBE5.out.size)⟩
                  case measure => simp [intOf]; omega
              · have hjn : i0 = j := by omega
                subst hjn
                have ij : decide ((i0 : Int) < (i0 : Int)) = false := by simp
                have HB : Hid (Below W0.heap.size W0 wr) := C4.out.1.b.trans (HBE.out.mono C4.out.1.b.size)
                clear hlt
                go_wp2
                go_ret
                exact ⟨rfl, HB.out⟩


set_option maxRecDepth 100000 in
theorem lifted (os : Os) (started : os.Started) (H : Type) (enc : TypeId × Value → H) :
    ReturnsInHanded {} Try.checked os 5 .any (Rows.diskCrashSpec.pre6 enc Try.prog Try.f5 Rows.diskCrashRow.domain false) (Rows.diskCrashSpec.post enc Try.prog Try.f5 false true false false) := by
  refine returnsInHanded_of_change_sized (C := Try.checked) own started (by kernel_rfl) Try.func5
    (ChangeSpec.witness6 (enc := enc) (C := Try.checked) false ⟨#[], #[.slice none 0 0, .int .i64 0], []⟩ 8 (by kernel_rfl) (by kernel_rfl) (by kernel_rfl) (by kernel_rfl)) ?_
  intro W base args ds gs before hval0 hW hcnd hsz0 _
  have hval : ∀ (j : Nat) t v, Try.f5.params[j]? = some t → args[j]? = some v → Value.okWide Try.prog W .any base t v := hval0
  have hsz : (DataW.weightsEach Try.prog (Try.f5.params.toList ++ Rows.diskCrashSpec.plain.varTypes Try.prog) (ds ++ gs)).all (· ≤ reachBytes) = true := hsz0
  have hW' := hW
  obtain ⟨p, q, hA0, hV, rfl, hfz, hnd⟩ := hW
  have hA : DataW.TrodAll enc Try.prog W 0 (fun _ => true) true Try.f5.params.toList args.toList ds p := hA0
  rw [Try.params5] at hA hval hsz
  obtain ⟨v0, vs0, d0, ds0, p0, q0, hargs, rfl, rfl, h0, r0⟩ := trodAll_cons hA
  obtain ⟨v1, vs1, d1, ds1, p1, q1, rfl, rfl, rfl, h1, r1⟩ := trodAll_cons r0
  obtain ⟨rfl, rfl, rfl⟩ := trodAll_nil r1
  obtain rfl : args = #[v0, v1] := by cases args; simp_all
  obtain ⟨rfl, rfl⟩ := trodVars_none hV
  have k0 := h0
  have lt0 : ∀ x ∈ p0, x.block < W.heap.size := by obtain ⟨m, hm⟩ := k0; exact DataW.trod_lt m _ _ _ hm
  obtain ⟨a0, c0, L0, rfl, m0, z0, e0, g0⟩ := open_deeds (hval 0 45 v0 rfl rfl) h0
  have k1 := h1
  have lt1 : ∀ x ∈ p1, x.block < W.heap.size := by obtain ⟨m, hm⟩ := k1; exact DataW.trod_lt m _ _ _ hm
  obtain ⟨x1, rfl, _, _, w1⟩ := open_int Try.underlying3 (hval 1 3 v1 rfl rfl) h1
  have e1 : -9223372036854775808 ≤ x1 ∧ x1 ≤ 9223372036854775807 := by simpa [Lit.wf, IntKind.min, IntKind.max, IntKind.signed, IntKind.bits] using w1
  clear hA0 hval0 hsz0
  refine (core a0 c0 L0 x1 W m0 z0 e0 g0 e1.1 e1.2).mono fun e W' ⟨he, bel⟩ => ?_
  subst he
  exact ⟨_, rfl, _, _, _, [], _, [], hW', trodAll_mk1 (shut_bool Try.underlying4 _), (trodAll_cons_mk (Below.trod laidOut (by kernel_rfl) (of_decide_eq_true (by kernel_rfl)) k0 bel lt0) (trodAll_cons_mk (Below.trod laidOut (by kernel_rfl) (of_decide_eq_true (by kernel_rfl)) k1 bel lt1) trodAll_mk0)), rfl, bel.frame _, fun h => by cases h⟩

theorem over : Rows.diskCrashRow.holds Try.pinned (OpenSpec.ofChange Rows.diskCrashSpec) :=
  OpenClaim.holds_of_wide 5 Try.f5 rfl rfl rfl rfl rfl rfl rfl ⟨rfl, rfl, rfl, rfl, rfl⟩ rfl rfl rfl rfl rfl (by kernel_rfl) Try.func5 (by kernel_rfl)
    (of_decide_eq_true (by kernel_rfl)) (by unfold Func.isWrapper; first | (rw [if_pos (by decide +kernel)]; kernel_rfl) | (rw [if_neg (by decide +kernel)]; exact ⟨rfl, rfl⟩))
    (fun os started H enc _ => lifted os started H enc)

end diskCrash

/-- The statement. -/
theorem diskCrash_holds : Rows.DiskCrashSaid := diskCrash.over
#print axioms diskCrash_holds
end Go.Proofs.Ythkhkijdehbbmaa
