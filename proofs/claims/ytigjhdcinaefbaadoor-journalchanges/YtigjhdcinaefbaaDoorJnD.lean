/-
  What the document's Drop answers.
-/
import Derived.Test.YtigjhdcinaefbaaDoorJnC
namespace Go.Proofs.YtigjhdcinaefbaaDoor
open Go.RowKit Crc
attribute [local go_sem ↓] Go.wp_at_zero Go.wp_at_succ
set_option linter.unusedVariables false

/-- Drop has gone through the first k versions. -/
def DropIs (F : Nat → Ver) (id : Int) (n k : Nat) (ok : Bool) (m : Nat) (G : Nat → Ver) : Prop :=
  (ok = false ∧ m = k ∧ (∀ i, i < m → G i = F i) ∧ No F id k) ∨ (ok = true ∧ ∃ q, Pl F id n q ∧ q < k ∧ m + 1 = k ∧ ∀ i, i < m → G i = dropF F q i)
theorem DropIs.skip {F : Nat → Ver} {id : Int} {n k m : Nat} {G : Nat → Ver} (h : DropIs F id n k false m G) (hk : k < n) (e : (F k).id = id) : DropIs F id n (k + 1) true m G := by
  rcases h with ⟨_, rfl, hG, hN⟩ | ⟨q, _⟩
  · exact .inr ⟨rfl, m, ⟨hk, e, hN⟩, by omega, rfl, fun i hi => by rw [hG i hi]; unfold dropF; rw [if_pos hi]⟩
  · cases q
theorem DropIs.take {F : Nat → Ver} {id : Int} {n k m : Nat} {ok : Bool} {G : Nat → Ver} (h : DropIs F id n k ok m G) (e : ok = false → (F k).id ≠ id) : DropIs F id n (k + 1) ok (m + 1) (catV m G (fun _ => F k)) := by
  rcases h with ⟨rfl, rfl, hG, hN⟩ | ⟨rfl, q, hq, hqk, hm, hG⟩
  · refine .inl ⟨rfl, rfl, fun i hi => ?_, fun j hj => ?_⟩
    · unfold catV
      by_cases h : i < m
      · rw [if_pos h]; exact hG i h
      · rw [if_neg h]; show F m = F i; congr 1; omega
    · by_cases h : j = m
      · subst h; exact e rfl
      · exact hN j (by omega)
  · refine .inr ⟨rfl, q, hq, by omega, by omega, fun i hi => ?_⟩
    unfold catV
    by_cases h : i < m
    · rw [if_pos h]; exact hG i h
    · rw [if_neg h]; show F k = dropF F q i
      unfold dropF; rw [if_neg (by omega)]; congr 1; omega

set_option maxRecDepth 100000 in
set_option maxHeartbeats 4000000 in
theorem rdrop_any (t : Int) (s : ByteArray) (a : Option Addr) (n c : Nat) (F : Nat → Ver) (id : Int) (w : World) (hF : Vs w a n F) (hn : n ≤ 1000) :
    Calls Tryd.prog 27 #[jv t s (.slice a n c), .int .i64 id] w (DropEnd t s n F id w) := by
  obtain ⟨W, hbx, hj, hb⟩ := box_jn w 24 t s (.slice a n c)
  obtain ⟨W2, hW2⟩ : ∃ W2, W.alloc (.cells #[.int .i64 0, .string noS, .slice none 0 0] 24) = W2 := ⟨_, rfl⟩
  have b2 : Below W.heap.size W W2 := by rw [← hW2]; exact bal _ _
  have hr2 : JB W2 W.heap.size 0 noS (.slice none 0 0) 24 := by rw [← hW2]; exact heap_alloc_new _ _
  have hF2 := hF.keep (hop hb b2)
  have hj2 := hj.keep b2
  obtain ⟨c0, c1, c2⟩ := hj.keep b2
  obtain ⟨X0, hX0⟩ : ∃ X0, W2.alloc (.cells #[.int .i64 t, .string s, .slice none 0 0] 24) = X0 := ⟨_, rfl⟩
  have bX0 : Below W2.heap.size W2 X0 := by rw [← hX0]; exact bal _ _
  have ho0 : JB X0 W2.heap.size t s (.slice none 0 0) 24 := by rw [← hX0]; exact heap_alloc_new _ _
  have HB : Hid (Below w.heap.size w W2) := hop hb b2
  have HJ2 : Hid (JAt W2 w.heap.size t s (.slice a n c)) := hj2
  have HR2 : Hid (JB W2 W.heap.size 0 noS (.slice none 0 0) 24) := hr2
  have HF2 : Hid (Vs W2 a n F) := hF2
  have hWl := hb.size
  have hW2l : W.heap.size < W2.heap.size := (Array.getElem?_eq_some_iff.1 hr2).1
  obtain ⟨_, _, o2⟩ := ho0.at
  have fo : ∀ j, X0.frozen? ⟨W2.heap.size, j, none⟩ = false := ho0.soft
  obtain ⟨X1, hX1⟩ : ∃ X1, X0.setCell ⟨W2.heap.size, 2, none⟩ (.slice none 0 0) = X1 := ⟨_, rfl⟩
  have HO0 : Hid (JB X1 W2.heap.size t s (.slice none 0 0) 24) := by
    unfold Hid; rw [← hX1]; exact heap_setCell_same _ W2.heap.size 2 _ _ _ ho0
  have HBX : Hid (Below W2.heap.size W2 X1) := by unfold Hid; rw [← hX1]; exact bX0.setCell (p := ⟨W2.heap.size, 2, none⟩) (Nat.le_refl _) _
  clear hF hj hb b2 hr2 hF2 hj2 bX0 ho0
  unfold jv at *
  unfold noS at *
  go_enter Tryd.func27, Tryd.ntmps27
  go_wp2
  clear c0 c1 c2 o2 fo hX1 hX0
  go_loopw [7, 8] (fun o i wr => ∃ (k m cc : Nat) (ok : Bool) (av : Option Addr) (G : Nat → Ver), k ≤ n ∧ i = .int .i64 k ∧ o = .bool ok ∧ JB wr W2.heap.size t s (.slice av m cc) 24 ∧ VOwn wr W2.heap.size (.slice av m cc) m G ∧ (∀ i, (G i).fits) ∧ m ≤ k ∧ DropIs F id n k ok m G ∧ Below W2.heap.size W2 wr) (fun _ i _ => n - (intOf i).toNat)
  case atStart => exact ⟨0, 0, 0, false, none, F, by omega, rfl, rfl, HO0.out, VOwn.start _ _ _, HF2.out.ft, by omega, .inl ⟨rfl, rfl, fun i hi => rfl, fun j hj => absurd hj (by omega)⟩, HBX.out⟩
  case round =>
    obtain ⟨k, m, cc, ok, av, G, hk, rfl, rfl, hO, hV, hGf, hmk, hD, hB⟩ := hrel
    clear HO0 HBX
    obtain ⟨c0, c1, c2⟩ := HJ2.out.keep hB
    by_cases hlt : k < n
    · have ik : (k : Int) < (n : Int) := by omega
      obtain ⟨b1, o1, ea, hc⟩ := (HF2.out.keep hB).lies (by omega)
      subst ea
      obtain ⟨v0, v1, v2, v3⟩ := hc k hlt
      by_cases hskip : (F k).id = id ∧ ok = false
      · obtain ⟨he, rfl⟩ := hskip
        have HD : Hid (DropIs F id n (k + 1) true m G) := hD.skip hlt he
        have g0 : ((F k).id == id) = true := by rw [beq_iff_eq]; exact he
        have HO : Hid (JB wr W2.heap.size t s (.slice av m cc) 24) := hO
        have HV : Hid (VOwn wr W2.heap.size (.slice av m cc) m G) := hV
        have HBr : Hid (Below W2.heap.size W2 wr) := hB
        have HGf : Hid (∀ i, (G i).fits) := hGf
        clear hc hD he hO hV hB hGf
        generalize F k = v at *
        obtain ⟨vi, vm, vz, vs⟩ := v
        dsimp only at *
        go_wp2
        go_round
        case rel => exact ⟨k + 1, m, cc, true, av, G, by omega, by go_num, rfl, HO.out, HV.out, HGf.out, by omega, HD.out, HBr.out⟩
        case measure => simp [intOf]; omega
      · have hdt := hD.take (F := F) (fun q e => hskip ⟨e, q⟩)
        obtain ⟨E, hE⟩ : ∃ E, (wr.alloc (.cells #[.int .i64 (F k).id, .bool (F k).mr, .int .i64 (F k).sz, .int .u32 ((F k).sm : Int)] 46)).drew = E := ⟨_, rfl⟩
        have hE' : wr.drew.alloc (.cells #[.int .i64 (F k).id, .bool (F k).mr, .int .i64 (F k).sz, .int .u32 ((F k).sm : Int)] 46) = E := hE
        have bE : Below wr.heap.size wr E := by rw [← hE]; exact (bal _ _).drew
        have lE : Vs E (some ⟨wr.heap.size, 0, none⟩) 1 (fun _ => F k) := by
          rw [← hE']; exact litV wr.drew (F k) (HF2.out.ft k)
        obtain ⟨v', Y, hr, oY, gY, bY⟩ := appendV (c := 1) (hV.keep bE) lE (fun e => by cases e) (by omega) (Nat.le_trans hB.size bE.size)
        have hfit : ∀ i, (catV m G (fun _ => F k) i).fits := fun i => by unfold catV; split; exact hGf _; exact HF2.out.ft k
        obtain ⟨a', c', rfl, _, _, _, _⟩ := oY.vs hfit
        have hOY : JB Y W2.heap.size t s (.slice av m cc) 24 := JB.grown (hV.keep bE) gY (by decide) (hO.keep bE)
        have oY' : VOwn (Y.setCell ⟨W2.heap.size, 2, none⟩ (.slice a' (m + 1) c')) W2.heap.size (.slice a' (m + 1) c') (m + 1) (catV m G (fun _ => F k)) := oY.put fun cur hY => by
          have h := hOY
          unfold JB at h
          rw [h] at hY
          injection hY with hY
          injection hY with _ hY _
          cases hY
        have HO : Hid (JB (Y.setCell ⟨W2.heap.size, 2, none⟩ (.slice a' (m + 1) c')) W2.heap.size t s (.slice a' (m + 1) c') 24) := heap_setCell_same _ W2.heap.size 2 _ _ _ hOY
        have HV : Hid (VOwn (Y.setCell ⟨W2.heap.size, 2, none⟩ (.slice a' (m + 1) c')) W2.heap.size (.slice a' (m + 1) c') (m + 1) (catV m G (fun _ => F k))) := oY'
        have HBr : Hid (Below W2.heap.size W2 (Y.setCell ⟨W2.heap.size, 2, none⟩ (.slice a' (m + 1) c'))) := ((hB.trans (bE.mono hB.size)).trans bY).setCell (p := ⟨W2.heap.size, 2, none⟩) (Nat.le_refl _) _
        have HD : Hid (DropIs F id n (k + 1) ok (m + 1) (catV m G (fun _ => F k))) := hdt
        have HGf : Hid (∀ i, (catV m G (fun _ => F k) i).fits) := hfit
        obtain ⟨j0, j1, j2⟩ := hOY.at
        have jz := hOY.soft
        obtain ⟨q0, q1, q2⟩ := hO.at
        obtain ⟨q0', q1', q2'⟩ := (hO.keep bE).at
        have HA : Hid (Sem.run Tryd.prog (Builtin.append_ #[22, 22] 22 #[.slice av m cc, .slice (some ⟨wr.heap.size, 0, none⟩) 1 1]) E = .ok (.slice a' (m + 1) c') Y) := hr
        have hsk : ok = false → ((F k).id == id) = false := fun q => beq_eq_false_iff_ne.2 (fun e => hskip ⟨e, q⟩)
        clear hc hD hdt hO hV hB hGf bE lE hr oY gY bY hfit hOY oY' hskip hE'
        generalize catV m G (fun _ => F k) = GG at *
        generalize F k = v at *
        obtain ⟨vi, vm, vz, vs⟩ := v
        dsimp only at *
        cases ok with
        | false =>
          have g0 := hsk rfl
          clear hsk
          go_wp2_with fail
          go_region_law (refine step_append_ran (by rfl) _ _ 22 (by rfl) (.slice av m cc) (.slice (some ⟨wr.heap.size, 0, none⟩) 1 1) (.slice a' (m + 1) c') Y (by rfl) (by rfl) (by dsimp only; with_reducible exact HA.out) ?_)
          all_goals
            go_wp2
            go_round
            case rel => exact ⟨k + 1, m + 1, c', false, a', GG, by omega, by go_num, rfl, HO.out, HV.out, HGf.out, by omega, HD.out, HBr.out⟩
            case measure => simp [intOf]; omega
        | true =>
          clear hsk
          cases g0 : (vi == id) with
          | false =>
            go_wp2_with fail
            go_region_law (refine step_append_ran (by rfl) _ _ 22 (by rfl) (.slice av m cc) (.slice (some ⟨wr.heap.size, 0, none⟩) 1 1) (.slice a' (m + 1) c') Y (by rfl) (by rfl) (by dsimp only; with_reducible exact HA.out) ?_)
            all_goals
              go_wp2
              go_round
              case rel => exact ⟨k + 1, m + 1, c', true, a', GG, by omega, by go_num, rfl, HO.out, HV.out, HGf.out, by omega, HD.out, HBr.out⟩
              case measure => simp [intOf]; omega
          | true =>
            go_wp2_with fail
            go_region_law (refine step_append_ran (by rfl) _ _ 22 (by rfl) (.slice av m cc) (.slice (some ⟨wr.heap.size, 0, none⟩) 1 1) (.slice a' (m + 1) c') Y (by rfl) (by rfl) (by dsimp only; with_reducible exact HA.out) ?_)
            all_goals
              go_wp2
              go_round
              case rel => exact ⟨k + 1, m + 1, c', true, a', GG, by omega, by go_num, rfl, HO.out, HV.out, HGf.out, by omega, HD.out, HBr.out⟩
              case measure => simp [intOf]; omega
    · have : k = n := by omega
      subst this
      have hr3 := HR2.out.keep hB
      obtain ⟨q0, q1, q2⟩ := hr3.at
      have fq : ∀ j, wr.frozen? ⟨W.heap.size, j, none⟩ = false := hr3.soft
      obtain ⟨j0, j1, j2⟩ := hO.at
      have HBr : Hid (Below w.heap.size w wr) := hop HB.out hB
      have HJn : Hid (∀ v0 v1 v2, Jn (((wr.setCell ⟨W.heap.size, 0, none⟩ v0).setCell ⟨W.heap.size, 1, none⟩ v1).setCell ⟨W.heap.size, 2, none⟩ v2) (jv t s (.slice av m cc)) t s m G) := fun v0 v1 v2 => by
        have q : ∀ (X : World) (x0 x1 x2 : Value), X.heap[W.heap.size]? = some (.cells #[x0, x1, x2] 24 (0, 0)) → ∀ cur, X.heap[W.heap.size]? ≠ some (.cells cur 46 (0, 0)) := fun X x0 x1 x2 hX cur hY => by
          rw [hX] at hY
          injection hY with hY
          injection hY with _ hY _
          cases hY
        have k1 := heap_setCell_same _ W.heap.size 0 _ _ v0 hr3
        have k2 := heap_setCell_same _ W.heap.size 1 _ _ v1 k1
        obtain ⟨a', c', e, hvs, hz, hc, _⟩ := (((hV.put (j := 0) (u := v0) (q _ _ _ _ hr3)).put (j := 1) (u := v1) (q _ _ _ _ k1)).put (j := 2) (u := v2) (q _ _ _ _ k2)).vs hGf
        injection e with e1 e2 e3
        subst e1; subst e3
        exact ⟨_, _, rfl, hvs, hz, hc⟩
      rcases hD with ⟨rfl, hm, hG, hN⟩ | ⟨rfl, q, hq, hqk, hm, hG⟩
      · have HE : Hid (∀ w', Below w.heap.size w w' → DropEnd t s k F id w (.returned (.tuple #[nojn, .bool false])) w') := fun w' h => ⟨.inr ⟨hN, rfl⟩, h⟩
        clear hN hm hG hO hV hB hGf hr3 HJn
        go_wp2_with fail
        exact bodyPost_ret (v := .tuple #[nojn, .bool false]) (by simp [results, Tryd.results27, go_sem, nojn, jv, noS, *]) rfl (HE.out _ (below3 HBr.out hWl _ _ _))
      · have HE : Hid (∀ w' u, Below w.heap.size w w' → Jn w' u t s m G → DropEnd t s k F id w (.returned (.tuple #[u, .bool true])) w') := fun w' u h hJ => by
          refine ⟨.inl ⟨q, hq, u, rfl, ?_⟩, h⟩
          obtain ⟨a', c', e, hvs, hz, hc⟩ := hJ
          rw [show k - 1 = m by omega]
          refine ⟨a', c', e, ⟨fun i => by unfold dropF; split; exact HF2.out.ft _; exact HF2.out.ft _, fun h0 => ?_⟩, hz, hc⟩
          obtain ⟨b, o, e, hcc⟩ := hvs.lies h0
          exact ⟨b, o, e, fun i hi => by rw [← hG i hi]; exact hcc i hi⟩
        clear hm hG hO hV hB hGf hr3 hq hqk
        go_wp2_with fail
        exact bodyPost_ret (v := .tuple #[jv t s (.slice av m cc), .bool true]) (by simp [results, Tryd.results27, go_sem, jv, *]) rfl (HE.out _ _ (below3 HBr.out hWl _ _ _) (HJn.out _ _ _))
end Go.Proofs.YtigjhdcinaefbaaDoor
