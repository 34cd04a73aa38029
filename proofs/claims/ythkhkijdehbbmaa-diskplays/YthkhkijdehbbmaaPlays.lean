/-
  Whatever is done on a disk, and befalls it: each answer, all files, what is synced, and how many operations were counted are as the document says.
-/
import Derived.Test.YthkhkijdehbbmaaRows
import Derived.WalkKit
import Derived.ProofKit
import Derived.OpenShut
import Derived.ShutString
import Derived.ChangeOld
import Derived.Below
import Derived.SizedLaws
import Derived.ChangeSame
import Derived.ChangeMaps5
import Derived.Test.YthkhkijdehbbmaaSdP
import Derived.Test.YthkhkijdehbbmaaByt
set_option maxRecDepth 100000
namespace Go.Proofs.Ythkhkijdehbbmaa
namespace diskPlays
open Go.ChangeShapes Go.WideShapes Go.ChangeAt Go.RowKit
open _root_.Go.Proofs.Ythkhkijdehbbmaa.Nm _root_.Go.Proofs.Ythkhkijdehbbmaa.Dk
set_option linter.unusedVariables false
attribute [local go_sem ↓] Go.wp_at_zero Go.wp_at_succ

theorem own : ownKnob Try.prog.godebug = none := by kernel_rfl
theorem laidOut : laidOutB Try.prog = true := by kernel_rfl

theorem keep_S {P : Program} {md : Region.Mode} {ops : Array Oper} {Q : Exit → Act → World → Prop} {S S' : World → Prop} (hS : ∀ w, S' w → S w) : ∀ (fuel : Nat) (listed : Array Bool) (a : Act) (w : World), wpAnyH P md ops Q S' fuel listed a w → wpAnyH P md ops Q S fuel listed a w
  | 0, _, _, _, h => h
  | fuel + 1, _, _, _, h => ⟨h.1, fun i hi => wpOp_mono (fun a' w' k => ⟨hS w' k.1, keep_S hS fuel _ a' w' k.2⟩) (h.2 i hi)⟩
/-- The round's relation. -/
structure PlW (W0 : World) (p m d kq kg j : Nat) (s : St) (zz : Fz) (w : World) : Prop where
  pr : Pr W0 w p m d (some kq) (some kg) s s (some zz) (some zz)
  zn : ZN j (some zz)
theorem PlW.zb {W0 : World} {p m d kq kg j : Nat} {s : St} {zz : Fz} {w : World} (h : PlW W0 p m d kq kg j s zz w) (hj : j ≤ 100) : Zb (some zz) := fun y e => by
  injection e with e
  subst e
  obtain ⟨y, e, h0, h1⟩ := h.zn
  injection e with e
  subst e
  exact ⟨h0, by omega⟩
set_option maxHeartbeats 8000000 in
theorem core (mo : Int) (a : Option Addr) (c : Nat) (L : List Dd) (W0 : World) (hmo0 : -9223372036854775808 ≤ mo) (hmo1 : mo ≤ 9223372036854775807) (hD : Ds W0 a L) (hz : a = none → L.length = 0 ∧ c = 0) (hl : L.length ≤ maxLen) (hok : ∀ i, i < L.length → Dok L[i]!) :
    Calls Try.prog 4 #[.int .i64 mo, .slice a L.length c] W0 fun e w' => e = .returned (.bool true) ∧ Below W0.heap.size W0 w' := by
  have cA := awake_any W0
  have HD : Hid (Ds W0 a L) := hD
  have HOK : Hid (∀ i, i < L.length → Dok L[i]!) := hok
  clear hD hok
  go_enter Try.func4, Try.ntmps4
  go_wp2_with fail
  go_at_call 9
  refine cA.mono ?_
  rintro e w ⟨rfl, b0⟩
  clear cA
  have HB0 : Hid (Below W0.heap.size W0 w) := b0
  have cR := room_any a c L 80 w (HD.out.keep b0) hl
  clear b0
  go_wp2_with fail
  go_at_call 24
  refine cR.mono ?_
  rintro e w ⟨rfl, rfl⟩
  clear cR
  cases hR : roomB L 80 with
  | false =>
    go_wp2
    go_ret
    exact ⟨rfl, HB0.out⟩
  | true =>
    obtain ⟨hlen, hsm⟩ := roomB_out hR
    have HSM : Hid (∀ i, i < L.length → L[i]!.a.size ≤ 1000 ∧ L[i]!.b.size ≤ 1000 ∧ L[i]!.v.2.1 ≤ 5000) := hsm
    clear hR hsm
    have cN := newfuse_any w
    go_wp2_with fail
    go_at_call 10
    refine cN.mono ?_
    rintro e w1 ⟨rfl, hz1, b1⟩
    clear cN
    obtain ⟨kq, hkq⟩ : ∃ kq, w.heap.size = kq := ⟨_, rfl⟩
    have hkq0 : W0.heap.size ≤ kq := by rw [← hkq]; exact HB0.out.size
    rw [hkq] at hz1
    have HF1 : Hid (FZ w1 (some kq) (some z0)) := hz1
    have HB1 : Hid (Below W0.heap.size W0 w1) := HB0.out.trans (b1.mono HB0.out.size)
    clear hz1 b1
    obtain ⟨w2, hw2⟩ : ∃ w2, w1.alloc (.cells #[.int .i64 0, .int .i64 0, .bool false] 49) = w2 := ⟨_, rfl⟩
    have b2 : Below w1.heap.size w1 w2 := by rw [← hw2]; exact bal _ _
    have hg2 : w2.heap[w1.heap.size]? = some (.cells #[.int .i64 0, .int .i64 0, .bool false] 49) := by rw [← hw2]; exact heap_alloc_new _ _
    obtain ⟨kg, hkg⟩ : ∃ kg, w1.heap.size = kg := ⟨_, rfl⟩
    rw [hkg] at hg2
    have hkg0 : W0.heap.size ≤ kg := by rw [← hkg]; exact HB1.out.size
    have HZ2 : Hid (Zs w2 (some kg) (some z0)) := hg2
    have HF2 : Hid (FZ w2 (some kq) (some z0)) := HF1.out.keep b2
    have HB2 : Hid (Below W0.heap.size W0 w2) := HB1.out.trans (b2.mono HB1.out.size)
    have cW := new_any mo (some kq) w2 hmo0 hmo1
    dsimp only [Option.map] at cW
    have HW2 : Hid (w1.alloc (.cells #[.int .i64 0, .int .i64 0, .bool false] 49) = w2) := hw2
    have HKG : Hid (w1.heap.size = kg) := hkg
    have HK0 : Hid (W0.heap.size ≤ kq ∧ W0.heap.size ≤ kg) := ⟨hkq0, hkg0⟩
    clear b2 hg2 hkq0 hkg0
    clear hw2
    clear hkg
    go_wp2_with fail
    rw [HW2.out, HKG.out]
    go_at_call 11
    refine cW.mono ?_
    rintro e x1 ⟨rfl, h1, b3⟩
    clear cW
    obtain ⟨m, hm⟩ : ∃ m, w2.heap.size = m := ⟨_, rfl⟩
    rw [hm] at h1
    have HO1 : Hid (PX x1 (m + 1) m [] (some kq) (newSt mo) 0 ∧ FZ x1 (some kq) (some z0) ∧ Zs x1 (some kg) (some z0) ∧ Below W0.heap.size W0 x1 ∧ W0.heap.size ≤ m) := ⟨h1, HF2.out.keep b3, HZ2.out.keep b3, HB2.out.trans (b3.mono HB2.out.size), by rw [← hm]; exact HB2.out.size⟩
    have cV := newdisk_any mo (some kg) x1 hmo0 hmo1
    dsimp only [Option.map] at cV
    clear h1 b3
    go_wp2_with fail
    go_at_call 25
    refine cV.mono ?_
    rintro e x2 ⟨rfl, h2, b4⟩
    obtain ⟨d, hd⟩ : ∃ d, x1.heap.size = d := ⟨_, rfl⟩
    rw [hd] at h2
    have HP0 : Hid (PlW W0 (m + 1) m d kq kg 0 (newSt mo) z0 x2) := by
      obtain ⟨k1, k2, k3, k4, k5⟩ := HO1.out
      have hB : Below W0.heap.size W0 x2 := k4.trans (b4.mono k4.size)
      refine ⟨⟨⟨⟨[], 0, k1.keep b4⟩, k2.keep b4, hB, by omega, k5, fun k e => by injection e with e; subst e; exact HK0.out.1⟩, ⟨⟨none, 0, [], h2, fun x e => by cases e⟩, k3.keep b4, hB, by rw [← hd]; exact k4.size, fun k e => by injection e with e; subst e; exact HK0.out.2⟩, [], 0, none, 0, [], k1.keep b4, h2, fun x e => (by cases e), fun k hk => ?_, fun k hk => ?_⟩, z0, rfl, Int.le_refl _, Int.le_refl _⟩
      · obtain ⟨y, hy, _⟩ := hk
        cases hy
      · obtain ⟨y, hy, _⟩ := hk
        cases hy
    clear cV h2 b4 HO1
    go_wp2_with fail
    go_loopw [9] (fun i wr => ∃ (j : Nat) (s : St) (zz : Fz), j ≤ L.length ∧ i = .int .i64 j ∧ PlW W0 (m + 1) m d kq kg j s zz wr) (fun i _ => L.length - (intOf i).toNat)
    case atStart => exact ⟨0, newSt mo, z0, by omega, rfl, HP0.out⟩
    case round =>
      obtain ⟨j, s, zz, hj, rfl, hW⟩ := hrel
      have HW : Hid (PlW W0 (m + 1) m d kq kg j s zz wr) := hW
      have hb := hW.pr.on.b
      clear hW
      by_cases hlt : j < L.length
      · have ij : (j : Int) < (L.length : Int) := by omega
        obtain ⟨bb, oo, rfl, hA⟩ := (HD.out.keep hb) (by omega)
        have t0 := (hA j hlt).c0
        have t1 := (hA j hlt).c1
        have t2 := (hA j hlt).c2
        have t3 := (hA j hlt).c3
        have t4 := (hA j hlt).c4
        have hs := HSM.out j hlt
        have hk := HOK.out j hlt
        have hi0 := (HD.out (by omega))
        have HI : Hid (Inp W0 L[j]!.v.1 L[j]!.v.2.1 L[j]!.v.2.2 L[j]!.x) := by
          obtain ⟨_, _, _, hA0⟩ := hi0
          exact (hA0 j hlt).i
        have HCE : Hid (∀ W, Below W0.heap.size W0 W → W.cell? ⟨bb, oo + j * 5, none⟩ = some (.int .i64 L[j]!.d) ∧ W.cell? ⟨bb, oo + j * 5 + 1, none⟩ = some (.int .i64 L[j]!.n) ∧ W.cell? ⟨bb, oo + j * 5 + 2, none⟩ = some (.string L[j]!.a) ∧ W.cell? ⟨bb, oo + j * 5 + 3, none⟩ = some (.string L[j]!.b) ∧ W.cell? ⟨bb, oo + j * 5 + 4, none⟩ = some (.slice L[j]!.v.1 L[j]!.v.2.1 L[j]!.v.2.2)) := fun W hbW => by
          obtain ⟨b', o', e, hA'⟩ := (HD.out.keep hbW) (by omega)
          injection e with e
          injection e with e1 e2
          subst e1; subst e2
          have := hA' j hlt
          exact ⟨this.c0, this.c1, this.c2, this.c3, this.c4⟩
        obtain ⟨e, he⟩ : ∃ e, L[j]! = e := ⟨_, rfl⟩
        rw [he] at t0 t1 t2 t3 t4 hs HI HCE hk
        obtain ⟨ed, en, ea, eb, ⟨va, vn, vc⟩, ex⟩ := e
        have hn0 := hk.n0
        have hn1 := hk.n1
        dsimp only at t0 t1 t2 t3 t4 hs HI hn0 hn1
        clear hA he hi0 hk
        --BEGIN
        have bD : Below wr.heap.size wr wr.drew := (Below.refl _ _).drew
        have hPd := HW.out.pr.keep bD
        have HCE5 : Hid (∀ Y, Below W0.heap.size W0 Y → Y.cell? ⟨bb, oo + j * 5, none⟩ = some (.int .i64 ed) ∧ Y.cell? ⟨bb, oo + j * 5 + 1, none⟩ = some (.int .i64 en) ∧ Y.cell? ⟨bb, oo + j * 5 + 2, none⟩ = some (.string ea) ∧ Y.cell? ⟨bb, oo + j * 5 + 3, none⟩ = some (.string eb) ∧ Y.cell? ⟨bb, oo + j * 5 + 4, none⟩ = some (.slice va vn vc)) := HCE.out
        have sD : Hid (wr.drew.cell? ⟨bb, oo + j * 5, none⟩ = some (.int .i64 ed) ∧ wr.drew.cell? ⟨bb, oo + j * 5 + 1, none⟩ = some (.int .i64 en) ∧ wr.drew.cell? ⟨bb, oo + j * 5 + 2, none⟩ = some (.string ea) ∧ wr.drew.cell? ⟨bb, oo + j * 5 + 3, none⟩ = some (.string eb) ∧ wr.drew.cell? ⟨bb, oo + j * 5 + 4, none⟩ = some (.slice va vn vc)) := HCE5.out _ hPd.on.b
        have HKB : Hid (Calls Try.prog 26 #[.pointer (some ⟨m + 1, 0, none⟩), .pointer (some ⟨kq, 0, none⟩), .pointer (some ⟨d, 0, none⟩), .agg #[.int .i64 ed, .int .i64 en, .string ea, .string eb, .slice va vn vc]] wr.drew fun e w5 => e = .returned (.bool true) ∧ Hid (w5.cell? ⟨bb, oo + j * 5, none⟩ = some (.int .i64 ed) ∧ w5.cell? ⟨bb, oo + j * 5 + 1, none⟩ = some (.int .i64 en) ∧ w5.cell? ⟨bb, oo + j * 5 + 2, none⟩ = some (.string ea) ∧ w5.cell? ⟨bb, oo + j * 5 + 3, none⟩ = some (.string eb) ∧ w5.cell? ⟨bb, oo + j * 5 + 4, none⟩ = some (.slice va vn vc)) ∧ Hid (Calls Try.prog 27 #[.pointer (some ⟨m + 1, 0, none⟩), .pointer (some ⟨d, 0, none⟩)] w5 fun e w6 => e = .returned (.bool true) ∧ Hid (w6.cell? ⟨bb, oo + j * 5, none⟩ = some (.int .i64 ed) ∧ w6.cell? ⟨bb, oo + j * 5 + 1, none⟩ = some (.int .i64 en) ∧ w6.cell? ⟨bb, oo + j * 5 + 2, none⟩ = some (.string ea) ∧ w6.cell? ⟨bb, oo + j * 5 + 3, none⟩ = some (.string eb) ∧ w6.cell? ⟨bb, oo + j * 5 + 4, none⟩ = some (.slice va vn vc)) ∧ ∃ s' zz', Hid (PlW W0 (m + 1) m d kq kg (j + 1) s' zz' w6))) := by
          refine (bo_any W0 wr.drew (m + 1) m d kq kg s zz ed en ea eb va vn vc ex hPd (HW.out.zb (by omega)) (by unfold maxLen; omega) hs.2.1 HI.out (by unfold maxLen; omega) hn0 hn1).mono ?_
          rintro e w5 ⟨rfl, s', z', h9⟩
          obtain ⟨k1, k2⟩ := h9.out
          refine ⟨rfl, HCE5.out _ k1.on.b, ?_⟩
          refine (same_any W0 w5 (m + 1) m d _ _ s' z' k1).mono ?_
          rintro e w6 ⟨rfl, b6⟩
          have k3 := k1.keep b6
          refine ⟨rfl, HCE5.out _ k3.on.b, ?_⟩
          have k4 := k2 j HW.out.zn
          obtain ⟨y, rfl, _⟩ := id k4
          exact ⟨s', y, k3, k4⟩
        clear hs hb bD hPd hn0 hn1 t0 t1 t2 t3 t4 HCE HCE5 HI
        go_wp2_with fail
        refine wp_region_held_drew (S := fun Y => Y.cell? ⟨bb, oo + j * 5, none⟩ = some (.int .i64 ed) ∧ Y.cell? ⟨bb, oo + j * 5 + 1, none⟩ = some (.int .i64 en) ∧ Y.cell? ⟨bb, oo + j * 5 + 2, none⟩ = some (.string ea) ∧ Y.cell? ⟨bb, oo + j * 5 + 3, none⟩ = some (.string eb) ∧ Y.cell? ⟨bb, oo + j * 5 + 4, none⟩ = some (.slice va vn vc)) (by kernel_rfl) sD.out (fun hHeld => ?_)
        refine wpAnyH_take (i := 0) (oi := ?o1) (v := ?v1) ?hi1 (by kernel_rfl) (by kernel_rfl) (by kernel_rfl) ?hQ1 ?hy1 hHeld ?_
        case hi1 => (simp only [List.getElem?_toArray, List.getElem?_cons_zero]; rfl)
        case hQ1 => exact fun _ _ _ h => h
        case hy1 => (refine Or.inl ⟨by rfl, ?_⟩; intro w hSw; (try dsimp only at hSw); go_simp <;> with_reducible rfl)
        try simp only [Act.put, List.setIfInBounds_toArray, List.set_cons_zero, List.set_cons_succ]
        refine wpAnyH_take (i := 1) (oi := ?o2) (v := ?v2) ?hi2 (by kernel_rfl) (by kernel_rfl) (by kernel_rfl) ?hQ2 ?hy2 hHeld ?_
        case hi2 => (simp only [List.getElem?_toArray, List.getElem?_cons_zero, List.getElem?_cons_succ]; rfl)
        case hQ2 => exact fun _ _ _ h => h
        case hy2 => (refine Or.inl ⟨by rfl, ?_⟩; intro w hSw; (try dsimp only at hSw); go_simp <;> with_reducible rfl)
        try simp only [Act.put, List.setIfInBounds_toArray, List.set_cons_zero, List.set_cons_succ]
        refine wpAnyH_take (i := 2) (oi := ?o3) (v := ?v3) ?hi3 (by kernel_rfl) (by kernel_rfl) (by kernel_rfl) ?hQ3 ?hy3 hHeld ?_
        case hi3 => (simp only [List.getElem?_toArray, List.getElem?_cons_zero, List.getElem?_cons_succ]; rfl)
        case hQ3 => exact fun _ _ _ h => h
        case hy3 => (refine Or.inl ⟨by rfl, ?_⟩; intro w hSw; (try dsimp only at hSw); go_simp <;> with_reducible rfl)
        try simp only [Act.put, List.setIfInBounds_toArray, List.set_cons_zero, List.set_cons_succ]
        refine wpAnyH_take (i := 3) (oi := ?o4) (v := ?v4) ?hi4 (by kernel_rfl) (by kernel_rfl) (by kernel_rfl) ?hQ4 ?hy4 hHeld ?_
        case hi4 => (simp only [List.getElem?_toArray, List.getElem?_cons_zero, List.getElem?_cons_succ]; rfl)
        case hQ4 => exact fun _ _ _ h => h
        case hy4 => (refine Or.inl ⟨by rfl, ?_⟩; intro w hSw; (try dsimp only at hSw); go_simp <;> with_reducible rfl)
        try simp only [Act.put, List.setIfInBounds_toArray, List.set_cons_zero, List.set_cons_succ]
        refine wpAnyH_take (i := 4) (oi := ?o5) (v := ?v5) ?hi5 (by kernel_rfl) (by kernel_rfl) (by kernel_rfl) ?hQ5 ?hy5 hHeld ?_
        case hi5 => (simp only [List.getElem?_toArray, List.getElem?_cons_zero, List.getElem?_cons_succ]; rfl)
        case hQ5 => exact fun _ _ _ h => h
        case hy5 => (refine Or.inl ⟨by rfl, ?_⟩; intro w hSw; (try dsimp only at hSw); go_simp <;> with_reducible rfl)
        try simp only [Act.put, List.setIfInBounds_toArray, List.set_cons_zero, List.set_cons_succ]
        refine wpAnyH_take (i := 5) (oi := ?o6) (v := ?v6) ?hi6 (by kernel_rfl) (by kernel_rfl) (by kernel_rfl) ?hQ6 ?hy6 hHeld ?_
        case hi6 => (simp only [List.getElem?_toArray, List.getElem?_cons_zero, List.getElem?_cons_succ]; rfl)
        case hQ6 => exact fun _ _ _ h => h
        case hy6 => (refine Or.inl ⟨by rfl, ?_⟩; intro w hSw; (try dsimp only at hSw); go_simp <;> with_reducible rfl)
        try simp only [Act.put, List.setIfInBounds_toArray, List.set_cons_zero, List.set_cons_succ]
        refine wpAnyH_take (i := 6) (oi := ?o7) (v := ?v7) ?hi7 (by kernel_rfl) (by kernel_rfl) (by kernel_rfl) ?hQ7 ?hy7 hHeld ?_
        case hi7 => (simp only [List.getElem?_toArray, List.getElem?_cons_zero, List.getElem?_cons_succ]; rfl)
        case hQ7 => exact fun _ _ _ h => h
        case hy7 => (refine Or.inl ⟨by rfl, ?_⟩; intro w hSw; (try dsimp only at hSw); go_simp <;> with_reducible rfl)
        try simp only [Act.put, List.setIfInBounds_toArray, List.set_cons_zero, List.set_cons_succ]
        refine wpAnyH_ready (rs := [7]) (by kernel_rfl) (by simp) (AllReadyH.cons (o := ?o8) ?hi8 (fun K hK => ?_) AllReadyH.nil)
        case hi8 => (simp only [List.getElem?_toArray, List.getElem?_cons_zero, List.getElem?_cons_succ]; rfl)
        go_simp
        go_at_call 26
        refine HKB.out.mono ?_
        rintro e w5 ⟨rfl, s5, HK2⟩
        clear HKB hHeld
        refine hK.out _ _ s5.out (fun hHeld => ?_)
        clear hK
        try simp only [Act.put, List.setIfInBounds_toArray, List.set_cons_zero, List.set_cons_succ]
        refine wpAnyH_take (i := 8) (oi := ?o9) (v := ?v9) ?hi9 (by kernel_rfl) (by kernel_rfl) (by kernel_rfl) ?hQ9 ?hy9 hHeld ?_
        case hi9 => (simp only [List.getElem?_toArray, List.getElem?_cons_zero, List.getElem?_cons_succ]; rfl)
        case hQ9 => exact fun _ _ _ h => h
        case hy9 => (refine Or.inl ⟨by rfl, ?_⟩; intro w hSw; (try dsimp only at hSw); go_simp <;> with_reducible rfl)
        try simp only [Act.put, List.setIfInBounds_toArray, List.set_cons_zero, List.set_cons_succ]
        refine wpAnyH_take (i := 9) (oi := ?o10) (v := ?v10) ?hi10 (by kernel_rfl) (by kernel_rfl) (by kernel_rfl) ?hQ10 ?hy10 hHeld ?_
        case hi10 => (simp only [List.getElem?_toArray, List.getElem?_cons_zero, List.getElem?_cons_succ]; rfl)
        case hQ10 => exact fun _ _ _ h => h
        case hy10 => (refine Or.inl ⟨by rfl, ?_⟩; intro w hSw; (try dsimp only at hSw); go_simp <;> with_reducible rfl)
        try simp only [Act.put, List.setIfInBounds_toArray, List.set_cons_zero, List.set_cons_succ]
        refine wpAnyH_take (i := 10) (oi := ?o11) (v := ?v11) ?hi11 (by kernel_rfl) (by kernel_rfl) (by kernel_rfl) ?hQ11 ?hy11 hHeld ?_
        case hi11 => (simp only [List.getElem?_toArray, List.getElem?_cons_zero, List.getElem?_cons_succ]; rfl)
        case hQ11 => exact fun _ _ _ h => h
        case hy11 => (refine Or.inl ⟨by rfl, ?_⟩; intro w hSw; (try dsimp only at hSw); go_simp <;> with_reducible rfl)
        try simp only [Act.put, List.setIfInBounds_toArray, List.set_cons_zero, List.set_cons_succ]
        refine wpAnyH_take (i := 11) (oi := ?o12) (v := ?v12) ?hi12 (by kernel_rfl) (by kernel_rfl) (by kernel_rfl) ?hQ12 ?hy12 hHeld ?_
        case hi12 => (simp only [List.getElem?_toArray, List.getElem?_cons_zero, List.getElem?_cons_succ]; rfl)
        case hQ12 => exact fun _ _ _ h => h
        case hy12 => (refine Or.inl ⟨by rfl, ?_⟩; intro w hSw; (try dsimp only at hSw); go_simp <;> with_reducible rfl)
        try simp only [Act.put, List.setIfInBounds_toArray, List.set_cons_zero, List.set_cons_succ]
        refine wpAnyH_ready (rs := [12]) (by kernel_rfl) (by simp) (AllReadyH.cons (o := ?o13) ?hi13 (fun K hK => ?_) AllReadyH.nil)
        case hi13 => (simp only [List.getElem?_toArray, List.getElem?_cons_zero, List.getElem?_cons_succ]; rfl)
        go_simp
        go_at_call 27
        refine HK2.out.mono ?_
        rintro e w6 ⟨rfl, s6, s', zz', HP6⟩
        clear HK2 hHeld s5
        refine hK.out _ _ s6.out (fun hHeld => ?_)
        clear hK
        try simp only [Act.put, List.setIfInBounds_toArray, List.set_cons_zero, List.set_cons_succ]
        refine wpAnyH_take (i := 13) (oi := ?o14) (v := ?v14) ?hi14 (by kernel_rfl) (by kernel_rfl) (by kernel_rfl) ?hQ14 ?hy14 hHeld ?_
        case hi14 => (simp only [List.getElem?_toArray, List.getElem?_cons_zero, List.getElem?_cons_succ]; rfl)
        case hQ14 => exact fun _ _ _ h => h
        case hy14 => (refine Or.inl ⟨by rfl, ?_⟩; intro w hSw; (try dsimp only at hSw); go_simp <;> with_reducible rfl)
        try simp only [Act.put, List.setIfInBounds_toArray, List.set_cons_zero, List.set_cons_succ]
        refine wpAnyH_take (i := 14) (oi := ?o15) (v := ?v15) ?hi15 (by kernel_rfl) (by kernel_rfl) (by kernel_rfl) ?hQ15 ?hy15 hHeld ?_
        case hi15 => (simp only [List.getElem?_toArray, List.getElem?_cons_zero, List.getElem?_cons_succ]; rfl)
        case hQ15 => exact fun _ _ _ h => h
        case hy15 => (refine Or.inl ⟨by rfl, ?_⟩; intro w hSw; (try dsimp only at hSw); go_simp <;> with_reducible rfl)
        try simp only [Act.put, List.setIfInBounds_toArray, List.set_cons_zero, List.set_cons_succ]
        refine wpAnyH_take (i := 15) (oi := ?o16) (v := ?v16) ?hi16 (by kernel_rfl) (by kernel_rfl) (by kernel_rfl) ?hQ16 ?hy16 hHeld ?_
        case hi16 => (simp only [List.getElem?_toArray, List.getElem?_cons_zero, List.getElem?_cons_succ]; rfl)
        case hQ16 => exact fun _ _ _ h => h
        case hy16 => (refine Or.inl ⟨by rfl, ?_⟩; intro w hSw; (try dsimp only at hSw); go_simp <;> with_reducible rfl)
        try simp only [Act.put, List.setIfInBounds_toArray, List.set_cons_zero, List.set_cons_succ]
        obtain ⟨zn, zd, zb⟩ := zz'
        have hz6 : w6.heap[kg]? = some (.cells #[.int .i64 zn, .int .i64 zd, .bool zb] 49) := HP6.out.pr.dx.zs
        have q1 := cell_of_row w6 kg 1 _ _ _ hz6
        have q2 := cell_of_row w6 kg 2 _ _ _ hz6
        simp only [List.getElem?_toArray, List.getElem?_cons_zero, List.getElem?_cons_succ] at q1 q2
        have cBl := blown_any (some kq) (some ⟨zn, zd, zb⟩) w6 HP6.out.pr.on.fz
        have cOp := fun n => ops_any kq ⟨zn, zd, zb⟩ (w6.drewN n) (HP6.out.pr.on.fz.keep (bdn' w6 n))
        dsimp only [Option.map, blB] at cBl
        dsimp only at cOp
        have sG : Hid ((w6.cell? ⟨bb, oo + j * 5, none⟩ = some (.int .i64 ed) ∧ w6.cell? ⟨bb, oo + j * 5 + 1, none⟩ = some (.int .i64 en) ∧ w6.cell? ⟨bb, oo + j * 5 + 2, none⟩ = some (.string ea) ∧ w6.cell? ⟨bb, oo + j * 5 + 3, none⟩ = some (.string eb) ∧ w6.cell? ⟨bb, oo + j * 5 + 4, none⟩ = some (.slice va vn vc)) ∧ w6.cell? ⟨kg, 1, none⟩ = some (.int .i64 zd) ∧ w6.cell? ⟨kg, 2, none⟩ = some (.bool zb)) := ⟨s6.out, q1, q2⟩
        have sGn : Hid (∀ n, (((w6.drewN n).cell? ⟨bb, oo + j * 5, none⟩ = some (.int .i64 ed) ∧ (w6.drewN n).cell? ⟨bb, oo + j * 5 + 1, none⟩ = some (.int .i64 en) ∧ (w6.drewN n).cell? ⟨bb, oo + j * 5 + 2, none⟩ = some (.string ea) ∧ (w6.drewN n).cell? ⟨bb, oo + j * 5 + 3, none⟩ = some (.string eb) ∧ (w6.drewN n).cell? ⟨bb, oo + j * 5 + 4, none⟩ = some (.slice va vn vc)) ∧ (w6.drewN n).cell? ⟨kg, 1, none⟩ = some (.int .i64 zd) ∧ (w6.drewN n).cell? ⟨kg, 2, none⟩ = some (.bool zb))) := fun _ => sG.out
        clear hz6 q1 q2 hHeld s6
        refine keep_S (S' := fun Y => (Y.cell? ⟨bb, oo + j * 5, none⟩ = some (.int .i64 ed) ∧ Y.cell? ⟨bb, oo + j * 5 + 1, none⟩ = some (.int .i64 en) ∧ Y.cell? ⟨bb, oo + j * 5 + 2, none⟩ = some (.string ea) ∧ Y.cell? ⟨bb, oo + j * 5 + 3, none⟩ = some (.string eb) ∧ Y.cell? ⟨bb, oo + j * 5 + 4, none⟩ = some (.slice va vn vc)) ∧ Y.cell? ⟨kg, 1, none⟩ = some (.int .i64 zd) ∧ Y.cell? ⟨kg, 2, none⟩ = some (.bool zb)) (fun _ k => k.1) _ _ _ _ ?_
        have hHeld := sG.out
        refine wpAnyH_take (i := 16) (oi := ?o17) (v := ?v17) ?hi17 (by kernel_rfl) (by kernel_rfl) (by kernel_rfl) ?hQ17 ?hy17 hHeld ?_
        case hi17 => (simp only [List.getElem?_toArray, List.getElem?_cons_zero, List.getElem?_cons_succ]; rfl)
        case hQ17 => exact fun _ _ _ h => h
        case hy17 => (refine Or.inl ⟨by rfl, ?_⟩; intro w hSw; (try dsimp only at hSw); go_simp <;> with_reducible rfl)
        try simp only [Act.put, List.setIfInBounds_toArray, List.set_cons_zero, List.set_cons_succ]
        refine wpAnyH_take (i := 18) (oi := ?o18) (v := ?v18) ?hi18 (by kernel_rfl) (by kernel_rfl) (by kernel_rfl) ?hQ18 ?hy18 hHeld ?_
        case hi18 => (simp only [List.getElem?_toArray, List.getElem?_cons_zero, List.getElem?_cons_succ]; rfl)
        case hQ18 => exact fun _ _ _ h => h
        case hy18 => (refine Or.inl ⟨by rfl, ?_⟩; intro w hSw; (try dsimp only at hSw); go_simp <;> with_reducible rfl)
        try simp only [Act.put, List.setIfInBounds_toArray, List.set_cons_zero, List.set_cons_succ]
        refine wpAnyH_take (i := 19) (oi := ?o19) (v := ?v19) ?hi19 (by kernel_rfl) (by kernel_rfl) (by kernel_rfl) ?hQ19 ?hy19 hHeld ?_
        case hi19 => (simp only [List.getElem?_toArray, List.getElem?_cons_zero, List.getElem?_cons_succ]; rfl)
        case hQ19 => exact fun _ _ _ h => h
        case hy19 => (refine Or.inl ⟨by rfl, ?_⟩; intro w hSw; (try dsimp only at hSw); go_simp <;> with_reducible rfl)
        try simp only [Act.put, List.setIfInBounds_toArray, List.set_cons_zero, List.set_cons_succ]
        refine wpAnyH_take (i := 20) (oi := ?o20) (v := ?v20) ?hi20 (by kernel_rfl) (by kernel_rfl) (by kernel_rfl) ?hQ20 ?hy20 hHeld ?_
        case hi20 => (simp only [List.getElem?_toArray, List.getElem?_cons_zero, List.getElem?_cons_succ]; rfl)
        case hQ20 => exact fun _ _ _ h => h
        case hy20 => (refine Or.inl ⟨by rfl, ?_⟩; intro w hSw; (try dsimp only at hSw); go_simp <;> with_reducible rfl)
        try simp only [Act.put, List.setIfInBounds_toArray, List.set_cons_zero, List.set_cons_succ]
        refine wpAnyH_take (i := 21) (oi := ?o21) (v := ?v21) ?hi21 (by kernel_rfl) (by kernel_rfl) (by kernel_rfl) ?hQ21 ?hy21 hHeld ?_
        case hi21 => (simp only [List.getElem?_toArray, List.getElem?_cons_zero, List.getElem?_cons_succ]; rfl)
        case hQ21 => exact fun _ _ _ h => h
        case hy21 => (refine Or.inl ⟨by rfl, ?_⟩; intro w hSw; (try dsimp only at hSw); go_simp <;> with_reducible rfl)
        try simp only [Act.put, List.setIfInBounds_toArray, List.set_cons_zero, List.set_cons_succ]
        refine wpAnyH_ready (rs := [17]) (by kernel_rfl) (by simp) (AllReadyH.cons (o := ?o22) ?hi22 (fun K hK => ?_) AllReadyH.nil)
        case hi22 => (simp only [List.getElem?_toArray, List.getElem?_cons_zero, List.getElem?_cons_succ]; rfl)
        go_simp
        go_at_call 22
        refine cBl.mono ?_
        rintro e w7 ⟨rfl, n7, rfl⟩
        clear cBl hHeld
        refine hK.out _ _ (sGn.out n7) (fun hHeld => ?_)
        clear hK
        try simp only [Act.put, List.setIfInBounds_toArray, List.set_cons_zero, List.set_cons_succ]
        refine wpAnyH_take (i := 22) (oi := ?o23) (v := ?v23) ?hi23 (by kernel_rfl) (by kernel_rfl) (by kernel_rfl) ?hQ23 ?hy23 hHeld ?_
        case hi23 => (simp only [List.getElem?_toArray, List.getElem?_cons_zero, List.getElem?_cons_succ]; rfl)
        case hQ23 => exact fun _ _ _ h => h
        case hy23 => (refine Or.inl ⟨by rfl, ?_⟩; intro w hSw; (try dsimp only at hSw); go_simp <;> with_reducible rfl)
        try simp only [Act.put, List.setIfInBounds_toArray, List.set_cons_zero, List.set_cons_succ]
        refine wpAnyH_take (i := 23) (oi := ?o24) (v := ?v24) ?hi24 (by kernel_rfl) (by kernel_rfl) (by kernel_rfl) ?hQ24 ?hy24 hHeld ?_
        case hi24 => (simp only [List.getElem?_toArray, List.getElem?_cons_zero, List.getElem?_cons_succ]; rfl)
        case hQ24 => exact fun _ _ _ h => h
        case hy24 => (refine Or.inl ⟨by rfl, ?_⟩; intro w hSw; (try dsimp only at hSw); go_simp <;> with_reducible rfl)
        try simp only [Act.put, List.setIfInBounds_toArray, List.set_cons_zero, List.set_cons_succ]
        refine wpAnyH_take (i := 24) (oi := ?o25) (v := ?v25) ?hi25 (by kernel_rfl) (by kernel_rfl) (by kernel_rfl) ?hQ25 ?hy25 hHeld ?_
        case hi25 => (simp only [List.getElem?_toArray, List.getElem?_cons_zero, List.getElem?_cons_succ]; rfl)
        case hQ25 => exact fun _ _ _ h => h
        case hy25 => (refine Or.inl ⟨by rfl, ?_⟩; intro w hSw; (try dsimp only at hSw); go_simp <;> with_reducible rfl)
        try simp only [Act.put, List.setIfInBounds_toArray, List.set_cons_zero, List.set_cons_succ]
        refine wpAnyH_take (i := 25) (oi := ?o26) (v := ?v26) ?hi26 (by kernel_rfl) (by kernel_rfl) (by kernel_rfl) ?hQ26 ?hy26 hHeld ?_
        case hi26 => (simp only [List.getElem?_toArray, List.getElem?_cons_zero, List.getElem?_cons_succ]; rfl)
        case hQ26 => exact fun _ _ _ h => h
        case hy26 => (refine Or.inl ⟨by rfl, ?_⟩; intro w hSw; (try dsimp only at hSw); go_simp <;> with_reducible rfl)
        try simp only [Act.put, List.setIfInBounds_toArray, List.set_cons_zero, List.set_cons_succ]
        refine wpAnyH_take (i := 27) (oi := ?o27) (v := ?v27) ?hi27 (by kernel_rfl) (by kernel_rfl) (by kernel_rfl) ?hQ27 ?hy27 hHeld ?_
        case hi27 => (simp only [List.getElem?_toArray, List.getElem?_cons_zero, List.getElem?_cons_succ]; rfl)
        case hQ27 => exact fun _ _ _ h => h
        case hy27 => (refine Or.inl ⟨by rfl, ?_⟩; intro w hSw; (try dsimp only at hSw); go_simp <;> with_reducible rfl)
        try simp only [Act.put, List.setIfInBounds_toArray, List.set_cons_zero, List.set_cons_succ]
        refine wpAnyH_take (i := 28) (oi := ?o28) (v := ?v28) ?hi28 (by kernel_rfl) (by kernel_rfl) (by kernel_rfl) ?hQ28 ?hy28 hHeld ?_
        case hi28 => (simp only [List.getElem?_toArray, List.getElem?_cons_zero, List.getElem?_cons_succ]; rfl)
        case hQ28 => exact fun _ _ _ h => h
        case hy28 => (refine Or.inl ⟨by rfl, ?_⟩; intro w hSw; (try dsimp only at hSw); go_simp <;> with_reducible rfl)
        try simp only [Act.put, List.setIfInBounds_toArray, List.set_cons_zero, List.set_cons_succ]
        refine wpAnyH_take (i := 29) (oi := ?o29) (v := ?v29) ?hi29 (by kernel_rfl) (by kernel_rfl) (by kernel_rfl) ?hQ29 ?hy29 hHeld ?_
        case hi29 => (simp only [List.getElem?_toArray, List.getElem?_cons_zero, List.getElem?_cons_succ]; rfl)
        case hQ29 => exact fun _ _ _ h => h
        case hy29 => (refine Or.inl ⟨by rfl, ?_⟩; intro w hSw; (try dsimp only at hSw); go_simp <;> with_reducible rfl)
        try simp only [Act.put, List.setIfInBounds_toArray, List.set_cons_zero, List.set_cons_succ]
        refine wpAnyH_take (i := 30) (oi := ?o30) (v := ?v30) ?hi30 (by kernel_rfl) (by kernel_rfl) (by kernel_rfl) ?hQ30 ?hy30 hHeld ?_
        case hi30 => (simp only [List.getElem?_toArray, List.getElem?_cons_zero, List.getElem?_cons_succ]; rfl)
        case hQ30 => exact fun _ _ _ h => h
        case hy30 => (refine Or.inl ⟨by rfl, ?_⟩; intro w hSw; (try dsimp only at hSw); go_simp <;> with_reducible rfl)
        try simp only [Act.put, List.setIfInBounds_toArray, List.set_cons_zero, List.set_cons_succ]
        refine wpAnyH_ready (rs := [26]) (by kernel_rfl) (by simp) (AllReadyH.cons (o := ?o31) ?hi31 (fun K hK => ?_) AllReadyH.nil)
        case hi31 => (simp only [List.getElem?_toArray, List.getElem?_cons_zero, List.getElem?_cons_succ]; rfl)
        go_simp
        go_at_call 23
        refine (cOp n7).mono ?_
        rintro e w8 ⟨rfl, rfl⟩
        clear cOp hHeld
        refine hK.out _ _ (sGn.out n7) (fun hHeld => ?_)
        clear hK
        try simp only [Act.put, List.setIfInBounds_toArray, List.set_cons_zero, List.set_cons_succ]
        refine wpAnyH_take (i := 31) (oi := ?o32) (v := ?v32) ?hi32 (by kernel_rfl) (by kernel_rfl) (by kernel_rfl) ?hQ32 ?hy32 hHeld ?_
        case hi32 => (simp only [List.getElem?_toArray, List.getElem?_cons_zero, List.getElem?_cons_succ]; rfl)
        case hQ32 => exact fun _ _ _ h => h
        case hy32 => (refine Or.inl ⟨by rfl, ?_⟩; intro w hSw; (try dsimp only at hSw); go_simp <;> with_reducible rfl)
        try simp only [Act.put, List.setIfInBounds_toArray, List.set_cons_zero, List.set_cons_succ]
        refine wpAnyH_take (i := 32) (oi := ?o33) (v := ?v33) ?hi33 (by kernel_rfl) (by kernel_rfl) (by kernel_rfl) ?hQ33 ?hy33 hHeld ?_
        case hi33 => (simp only [List.getElem?_toArray, List.getElem?_cons_zero, List.getElem?_cons_succ]; rfl)
        case hQ33 => exact fun _ _ _ h => h
        case hy33 => (refine Or.inl ⟨by rfl, ?_⟩; intro w hSw; (try dsimp only at hSw); go_simp <;> with_reducible rfl)
        try simp only [Act.put, List.setIfInBounds_toArray, List.set_cons_zero, List.set_cons_succ]
        refine wpAnyH_done (by kernel_rfl) ?_ _
        have HN : Hid (PlW W0 (m + 1) m d kq kg (j + 1) s' ⟨zn, zd, zb⟩ (w6.drewN n7)) := ⟨HP6.out.pr.keep (bdn' _ _), HP6.out.zn⟩
        clear HP6 sG sGn hHeld
        go_wp2
        go_round
        case rel => exact ⟨j + 1, s', _, by omega, by go_num, HN.out⟩
        case measure => simp [intOf]; omega
        --END
      · have hjn : j = L.length := by omega
        subst hjn
        have ij : decide ((L.length : Int) < (L.length : Int)) = false := by simp
        have HB : Hid (Below W0.heap.size W0 wr) := HW.out.pr.on.b
        clear hlt hb
        go_wp2
        go_ret
        exact ⟨rfl, HB.out⟩


set_option maxRecDepth 100000 in
theorem lifted (os : Os) (started : os.Started) (H : Type) (enc : TypeId × Value → H) :
    ReturnsInHanded {} Try.checked os 4 .any (Rows.diskPlaysSpec.pre6 enc Try.prog Try.f4 Rows.diskPlaysRow.domain false) (Rows.diskPlaysSpec.post enc Try.prog Try.f4 false true false false) := by
  refine returnsInHanded_of_change_sized (C := Try.checked) own started (by kernel_rfl) Try.func4
    (ChangeSpec.witness6 (enc := enc) (C := Try.checked) false ⟨#[], #[.int .i64 0, .slice none 0 0], []⟩ 8 (by kernel_rfl) (by kernel_rfl) (by kernel_rfl) (by kernel_rfl)) ?_
  intro W base args ds gs before hval0 hW hcnd hsz0 _
  have hval : ∀ (j : Nat) t v, Try.f4.params[j]? = some t → args[j]? = some v → Value.okWide Try.prog W .any base t v := hval0
  have hsz : (DataW.weightsEach Try.prog (Try.f4.params.toList ++ Rows.diskPlaysSpec.plain.varTypes Try.prog) (ds ++ gs)).all (· ≤ reachBytes) = true := hsz0
  have hW' := hW
  obtain ⟨p, q, hA0, hV, rfl, hfz, hnd⟩ := hW
  have hA : DataW.TrodAll enc Try.prog W 0 (fun _ => true) true Try.f4.params.toList args.toList ds p := hA0
  rw [Try.params4] at hA hval hsz
  obtain ⟨v0, vs0, d0, ds0, p0, q0, hargs, rfl, rfl, h0, r0⟩ := trodAll_cons hA
  obtain ⟨v1, vs1, d1, ds1, p1, q1, rfl, rfl, rfl, h1, r1⟩ := trodAll_cons r0
  obtain ⟨rfl, rfl, rfl⟩ := trodAll_nil r1
  obtain rfl : args = #[v0, v1] := by cases args; simp_all
  obtain ⟨rfl, rfl⟩ := trodVars_none hV
  have k0 := h0
  have lt0 : ∀ x ∈ p0, x.block < W.heap.size := by obtain ⟨m, hm⟩ := k0; exact DataW.trod_lt m _ _ _ hm
  obtain ⟨x0, rfl, _, _, w0⟩ := open_int Try.underlying3 (hval 0 3 v0 rfl rfl) h0
  have e0 : -9223372036854775808 ≤ x0 ∧ x0 ≤ 9223372036854775807 := by simpa [Lit.wf, IntKind.min, IntKind.max, IntKind.signed, IntKind.bits] using w0
  have k1 := h1
  have lt1 : ∀ x ∈ p1, x.block < W.heap.size := by obtain ⟨m, hm⟩ := k1; exact DataW.trod_lt m _ _ _ hm
  obtain ⟨a1, c1, L1, rfl, m1, z1, e1, g1⟩ := open_deeds (hval 1 45 v1 rfl rfl) h1
  clear hA0 hval0 hsz0
  refine (core x0 a1 c1 L1 W e0.1 e0.2 m1 z1 e1 g1).mono fun e W' ⟨he, bel⟩ => ?_
  subst he
  exact ⟨_, rfl, _, _, _, [], _, [], hW', trodAll_mk1 (shut_bool Try.underlying4 _), (trodAll_cons_mk (Below.trod laidOut (by kernel_rfl) (of_decide_eq_true (by kernel_rfl)) k0 bel lt0) (trodAll_cons_mk (Below.trod laidOut (by kernel_rfl) (of_decide_eq_true (by kernel_rfl)) k1 bel lt1) trodAll_mk0)), rfl, bel.frame _, fun h => by cases h⟩

theorem over : Rows.diskPlaysRow.holds Try.pinned (OpenSpec.ofChange Rows.diskPlaysSpec) :=
  OpenClaim.holds_of_wide 4 Try.f4 rfl rfl rfl rfl rfl rfl rfl ⟨rfl, rfl, rfl, rfl, rfl⟩ rfl rfl rfl rfl rfl (by kernel_rfl) Try.func4 (by kernel_rfl)
    (of_decide_eq_true (by kernel_rfl)) (by unfold Func.isWrapper; first | (rw [if_pos (by decide +kernel)]; kernel_rfl) | (rw [if_neg (by decide +kernel)]; exact ⟨rfl, rfl⟩))
    (fun os started H enc _ => lifted os started H enc)

end diskPlays

/-- The statement. -/
theorem diskPlays_holds : Rows.DiskPlaysSaid := diskPlays.over
#print axioms diskPlays_holds
end Go.Proofs.Ythkhkijdehbbmaa
