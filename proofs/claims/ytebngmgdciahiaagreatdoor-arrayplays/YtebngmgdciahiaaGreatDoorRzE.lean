/-
  Arithmetic of the field and of codes (texts of stages 1 to 3, one behind the other, in a namespace of their own).
-/
import Derived.Test.YtebngmgdciahiaaGreatDoorRzD
set_option maxRecDepth 100000
namespace Go.Proofs.YtebngmgdciahiaaGreatDoor.Rz
open Go.RowKit Gf
attribute [local go_sem ↓] Go.wp_at_zero Go.wp_at_succ

/-- Row k times f, its first t columns. -/
def sclp (k f t : Nat) (W : Nat → Nat → Nat) : Nat → Nat → Nat := fun i j => if i = k ∧ j < t then M (W i j) f else W i j
theorem sclp_put {k f t : Nat} {W : Nat → Nat → Nat} (i j : Nat) : put (sclp k f t W) k t (M (W k t) f) i j = sclp k f (t + 1) W i j := by
  unfold put sclp
  by_cases e : i = k ∧ j = t
  · rw [if_pos e, if_pos (by omega), e.1, e.2]
  · rw [if_neg e]
    by_cases q : i = k ∧ j < t
    · rw [if_pos q, if_pos (by omega)]
    · rw [if_neg q, if_neg (by omega)]
theorem sclp_zero (k f : Nat) (W : Nat → Nat → Nat) (i j : Nat) : W i j = sclp k f 0 W i j := by unfold sclp; rw [if_neg (by omega)]
theorem sclp_full {k f n : Nat} {W : Nat → Nat → Nat} (i j : Nat) (hj : j < n) : sclp k f n W i j = scl k f W i j := by
  unfold sclp scl
  by_cases e : i = k
  · subst e; rw [if_pos ⟨rfl, hj⟩, if_pos rfl]
  · rw [if_neg (fun q => e q.1), if_neg e]
/-- g times row k added to row r, its first t columns. -/
def addp (r k g t : Nat) (W : Nat → Nat → Nat) : Nat → Nat → Nat := fun i j => if i = r ∧ j < t then W i j ^^^ M g (W k j) else W i j
theorem addp_put {r k g t : Nat} {W : Nat → Nat → Nat} (i j : Nat) : put (addp r k g t W) r t (W r t ^^^ M g (W k t)) i j = addp r k g (t + 1) W i j := by
  unfold put addp
  by_cases e : i = r ∧ j = t
  · rw [if_pos e, if_pos (by omega), e.1, e.2]
  · rw [if_neg e]
    by_cases q : i = r ∧ j < t
    · rw [if_pos q, if_pos (by omega)]
    · rw [if_neg q, if_neg (by omega)]
theorem addp_zero (r k g : Nat) (W : Nat → Nat → Nat) (i j : Nat) : W i j = addp r k g 0 W i j := by unfold addp; rw [if_neg (by omega)]
theorem addp_full {r k g n : Nat} {W : Nat → Nat → Nat} (i j : Nat) (hj : j < n) : addp r k g n W i j = addr r k g W i j := by
  unfold addp addr
  by_cases e : i = r
  · subst e; rw [if_pos ⟨rfl, hj⟩, if_pos rfl]
  · rw [if_neg (fun q => e q.1), if_neg e]

set_option maxRecDepth 100000 in
set_option maxHeartbeats 8000000 in
theorem rinvert_any (a : Option Addr) (n c0 : Nat) (A : Nat → Option Addr) (C : Nat → Nat) (F : Nat → Nat → Nat) (w : World) (h : Mat w a n A (fun _ => n) C F) (n1 : 1 ≤ n) (n2 : n ≤ 255) (hinj : Inj n F) :
    Calls Tryz.prog 107 #[.slice a n c0] w fun e w' =>
      ∃ hy cy Gy Cy X lo top, e = .returned (.tuple #[.slice (some ⟨hy, 0, none⟩) n cy, .bool true]) ∧ Sq w' lo top hy n Gy Cy X ∧ B X ∧ IsInv n F X ∧ Below w.heap.size w w' := by
  have HM : Hid (Mat w a n A (fun _ => n) C F) := h
  have HI : Hid (Inj n F) := hinj
  have cS := rsquare_yes a n c0 A C F w h n1 n2
  clear h hinj
  go_enter Tryz.func107, Tryz.ntmps107
  go_wp2_with fail
  go_at_call 140
  refine cS.mono ?_
  rintro e w' ⟨rfl, k0, rfl⟩
  clear cS
  have b1 : Below w.heap.size w (w.drewN k0) := below_drewN (Below.refl _ _) k0
  have cC := copy_any a n c0 A (fun _ => n) C F (w.drewN k0) (HM.out.drewN k0) n2 (fun _ _ => by omega)
  go_wp2_with fail
  go_at_call 141
  refine cC.mono ?_
  rintro e w2 ⟨v2, rfl, ⟨A2, C2, bl2⟩, b2⟩
  clear cC
  obtain ⟨hx, cx, Gx, rfl, sx⟩ := bl2.sq n1
  have b02 : Below w.heap.size w w2 := b1.trans b2
  have lF := HM.out.lt
  have HF : Hid (B F) := lF
  clear bl2 b1 b2 HM lF
  go_wp2_with fail
  go_at_call 142
  refine (runit_any n w2 n1 n2).mono ?_
  rintro e w3 ⟨v3, rfl, ⟨A3, C3, bl3⟩, b3⟩
  obtain ⟨hy, cy, Gy, rfl, sy⟩ := bl3.sq n1
  have b03 : Below w.heap.size w w3 := b02.trans (b3.mono b02.size)
  have hlo : w.heap.size ≤ w2.heap.size := b02.size
  have sx3 : Sq w3 (w.drewN k0).heap.size w2.heap.size hx n Gx C2 F := sx.keep b3 (Nat.le_refl _)
  have SX : Hid (Sq w3 (w.drewN k0).heap.size w2.heap.size hx n Gx C2 (fun i => cat n (F i) (one i))) := sx3.congr fun i _ j hj => by unfold cat; rw [if_pos hj]
  have SY : Hid (Sq w3 w2.heap.size w3.heap.size hy n Gy C3 (hi n (fun i => cat n (F i) (one i)))) := sy.congr fun i _ j _ => by unfold hi cat; dsimp only; rw [if_neg (by omega)]; congr 1; omega
  have hl0 : w.heap.size ≤ (w.drewN k0).heap.size := Nat.le_refl _
  clear bl3 sx sy sx3 b02 b3
  generalize (w.drewN k0).heap.size = l0 at *
  generalize w2.heap.size = t1 at *
  generalize w3.heap.size = t2 at *
  go_wp2
  go_loopw [7] (fun v wr => ∃ k : Nat, k ≤ n ∧ v = .int .i64 k ∧ (∃ W Gx Cx Gy Cy, Sq wr l0 t1 hx n Gx Cx W ∧ Sq wr t1 t2 hy n Gy Cy (hi n W) ∧ Elim n F W (hi n W) ∧ ∀ i, i < n → ∀ j, j < k → W i j = one i j) ∧ Below w.heap.size w wr) (fun v _ => n - (intOf v).toNat)
  case atStart => exact ⟨0, by omega, rfl, ⟨_, _, _, _, _, SX.out, SY.out, elim_begin HF.out, fun i _ j hj => absurd hj (by omega)⟩, b03⟩
  case round =>
  obtain ⟨k, hk, rfl, ⟨W, Gx, Cx, Gy, Cy, sx, sy, he, hred⟩, hb⟩ := hrel
  clear SX SY b03
  have SX : Hid (Sq wr l0 t1 hx n Gx Cx W) := sx
  have SY : Hid (Sq wr t1 t2 hy n Gy Cy (hi n W)) := sy
  have HE : Hid (Elim n F W (hi n W)) := he
  have HR : Hid (∀ i, i < n → ∀ j, j < k → W i j = one i j) := hred
  clear sx sy he hred
  by_cases hlt : k < n
  · have ik : (k : Int) < (n : Int) := by omega
    have hxy : hx ≠ hy := by have := SX.out.hin; have := SY.out.hin; omega
    go_wp2
    go_loop [8] (fun v => ∃ p : Nat, k ≤ p ∧ p ≤ n ∧ v = .int .i64 p ∧ ∀ r, r < p → k ≤ r → W r k = 0) (fun v => n - (intOf v).toNat)
    case atStart => exact ⟨k, Nat.le_refl _, by omega, rfl, fun r h1 h2 => by omega⟩
    case round =>
    obtain ⟨p, hkp, hpn, rfl, hz⟩ := hrel
    have HZ : Hid (∀ r, r < p → k ≤ r → W r k = 0) := hz
    clear hz
    by_cases hp : p < n
    · have ip : (p : Int) < (n : Int) := by omega
      have xh := SX.out.hdr p hp
      have xc := SX.out.cell p hp k hlt
      by_cases hw : W p k = 0
      · rw [hw] at xc
        generalize Gx p = gp at xh xc
        generalize Cx p = cp at xh
        have HZ2 : Hid (∀ r, r < p + 1 → k ≤ r → W r k = 0) := fun r h1 h2 => by
          by_cases e : r = p
          · rw [e]; exact hw
          · exact HZ.out r (by omega) h2
        clear hw
        go_wp2
        go_round
        case rel => exact ⟨p + 1, by omega, by omega, by go_num, HZ2.out⟩
        case measure => simp [intOf]; omega
      · have HW : Hid (W p k ≠ 0) := hw
        have x0 : ((W p k : Nat) : Int) ≠ 0 := by omega
        have lx := HE.out.bx p k
        have hpn' : ((p : Nat) : Int) ≠ (n : Int) := by omega
        clear hw
        -- the rows exchanged
        have S1 : Hid (Sq ((wr.setCell ⟨hx, k, none⟩ (.slice (some ⟨Gx p, 0, none⟩) n (Cx p))).setCell ⟨hx, p, none⟩ (.slice (some ⟨Gx k, 0, none⟩) n (Cx k))).drew l0 t1 hx n (swn k p Gx) (swn k p Cx) (swp k p W)) := (SX.out.swap hlt hp).drewN 1
        have S2 : Hid (Sq ((wr.setCell ⟨hx, k, none⟩ (.slice (some ⟨Gx p, 0, none⟩) n (Cx p))).setCell ⟨hx, p, none⟩ (.slice (some ⟨Gx k, 0, none⟩) n (Cx k))).drew t1 t2 hy n Gy Cy (hi n W)) := ((SY.out.far (.inl SX.out.hin.2)).far (.inl SX.out.hin.2)).drewN 1
        have S3 : Hid (Below w.heap.size w ((wr.setCell ⟨hx, k, none⟩ (.slice (some ⟨Gx p, 0, none⟩) n (Cx p))).setCell ⟨hx, p, none⟩ (.slice (some ⟨Gx k, 0, none⟩) n (Cx k))).drew) := by
          have := SX.out.hin.1
          exact ((hb.setCell (p := ⟨hx, k, none⟩) (by simp; omega) _).setCell (p := ⟨hx, p, none⟩) (by simp; omega) _).drew
        have yk := SX.out.hdr k hlt
        have fk := SX.out.hsoft k hlt
        have fp := SX.out.hsoft p hp
        obtain ⟨u, ku⟩ : ∃ u, (wr.setCell ⟨hx, k, none⟩ (.slice (some ⟨Gx p, 0, none⟩) n (Cx p))).cell? ⟨hx, p, none⟩ = some u := by
          by_cases e : p = k
          · subst e; exact ⟨_, cell_same yk⟩
          · exact ⟨_, (cell_other (fun q => e q.symm)).trans xh⟩
        clear hb SX SY
        obtain ⟨Gx2, hGx2⟩ : ∃ G, G = swn k p Gx := ⟨_, rfl⟩
        obtain ⟨Cx2, hCx2⟩ : ∃ G, G = swn k p Cx := ⟨_, rfl⟩
        rw [← hGx2, ← hCx2] at S1
        clear hGx2 hCx2
        generalize Gx p = gp at *
        generalize Gx k = gk at *
        generalize Cx p = cp at *
        generalize Cx k = ck at *
        generalize W p k = x at xc x0 lx
        go_upto_region 13 with fail
        go_cut [] (fun wx => Sq wx l0 t1 hx n Gx2 Cx2 (swp k p W) ∧ Sq wx t1 t2 hy n Gy Cy (hi n W) ∧ Below w.heap.size w wx)
        case first =>
          go_region
          all_goals (go_wp2_with fail; go_meet; exact ⟨S1.out, S2.out, S3.out⟩)
        case rest =>
        obtain ⟨sx, sy, hb⟩ := hcut
        clear S1 S2 S3 xh xc yk fk fp ku x0 lx
        have S1 : Hid (Sq ((wc.setCell ⟨hy, k, none⟩ (.slice (some ⟨Gy p, 0, none⟩) n (Cy p))).setCell ⟨hy, p, none⟩ (.slice (some ⟨Gy k, 0, none⟩) n (Cy k))).drew l0 t1 hx n Gx2 Cx2 (swp k p W)) := ((sx.far (.inr sy.hin.1)).far (.inr sy.hin.1)).drewN 1
        have S2 : Hid (Sq ((wc.setCell ⟨hy, k, none⟩ (.slice (some ⟨Gy p, 0, none⟩) n (Cy p))).setCell ⟨hy, p, none⟩ (.slice (some ⟨Gy k, 0, none⟩) n (Cy k))).drew t1 t2 hy n (swn k p Gy) (swn k p Cy) (hi n (swp k p W))) := by rw [hi_swp]; exact (sy.swap hlt hp).drewN 1
        have S3 : Hid (Below w.heap.size w ((wc.setCell ⟨hy, k, none⟩ (.slice (some ⟨Gy p, 0, none⟩) n (Cy p))).setCell ⟨hy, p, none⟩ (.slice (some ⟨Gy k, 0, none⟩) n (Cy k))).drew) := by
          have := sy.hin.1
          exact ((hb.setCell (p := ⟨hy, k, none⟩) (by simp; omega) _).setCell (p := ⟨hy, p, none⟩) (by simp; omega) _).drew
        have xh := sy.hdr p hp
        have yk := sy.hdr k hlt
        have fk := sy.hsoft k hlt
        have fp := sy.hsoft p hp
        obtain ⟨u2, ku⟩ : ∃ u, (wc.setCell ⟨hy, k, none⟩ (.slice (some ⟨Gy p, 0, none⟩) n (Cy p))).cell? ⟨hy, p, none⟩ = some u := by
          by_cases e : p = k
          · subst e; exact ⟨_, cell_same yk⟩
          · exact ⟨_, (cell_other (fun q => e q.symm)).trans xh⟩
        clear hb sx sy
        obtain ⟨Gy2, hGy2⟩ : ∃ G, G = swn k p Gy := ⟨_, rfl⟩
        obtain ⟨Cy2, hCy2⟩ : ∃ G, G = swn k p Cy := ⟨_, rfl⟩
        rw [← hGy2, ← hCy2] at S2
        clear hGy2 hCy2
        generalize Gy p = gp at *
        generalize Gy k = gk at *
        generalize Cy p = cp at *
        generalize Cy k = ck at *
        obtain ⟨W1, hW1⟩ : ∃ W1, W1 = swp k p W := ⟨_, rfl⟩
        rw [← hW1] at S1 S2
        have HW1 : Hid (W1 = swp k p W) := hW1
        clear hW1
        go_upto_region 14 with fail
        go_cut [] (fun wx => Sq wx l0 t1 hx n Gx2 Cx2 W1 ∧ Sq wx t1 t2 hy n Gy2 Cy2 (hi n W1) ∧ Below w.heap.size w wx)
        case first =>
          go_region
          all_goals (go_wp2_with fail; go_meet; exact ⟨S1.out, S2.out, S3.out⟩)
        case rest =>
        obtain ⟨sx, sy, hb⟩ := hcut
        clear S1 S2 S3 xh yk fk fp ku
        have lW1 : B W1 := by rw [HW1.out]; exact swp_B HE.out.bx
        have LW1 : Hid (B W1) := lW1
        have SX : Hid (Sq wc l0 t1 hx n Gx2 Cx2 W1) := sx
        have SY : Hid (Sq wc t1 t2 hy n Gy2 Cy2 (hi n W1)) := sy
        have xh := sx.hdr k hlt
        have xc := sx.cell k hlt k hlt
        have e1 : W1 k k = W p k := by rw [HW1.out]; unfold swp; rw [if_pos rfl]
        have x0 : 0 < W1 k k := by rw [e1]; have := HW.out; omega
        have cI := rinv_any (W1 k k) wc (lW1 k k)
        rw [dv_one x0] at cI
        have lf := inv_lt (W1 k k)
        have HFF : Hid (inv (W p k) = inv (W1 k k)) := by rw [e1]; rfl
        have lx := lW1 k k
        clear sx sy lW1 e1
        generalize inv (W1 k k) = f at *
        generalize W1 k k = x at *
        generalize Gx2 k = gk at xh xc
        generalize Cx2 k = ck at xh
        have hbk := hb
        clear hb
        have HB : Hid (Below w.heap.size w wc) := hbk
        clear hbk
        go_wp2_with fail
        go_at_call 143
        refine cI.mono ?_
        rintro e w' ⟨rfl, rfl⟩
        clear cI xh xc x0 lx
        go_wp2
        go_loopw [11] (fun v wr => ∃ t : Nat, t ≤ n ∧ v = .int .i64 t ∧ Sq wr l0 t1 hx n Gx2 Cx2 (sclp k f t W1) ∧ Sq wr t1 t2 hy n Gy2 Cy2 (sclp k f t (hi n W1)) ∧ Below w.heap.size w wr) (fun v _ => n - (intOf v).toNat)
        case atStart => exact ⟨0, by omega, rfl, SX.out.congr fun i _ j _ => sclp_zero k f W1 i j, SY.out.congr fun i _ j _ => sclp_zero k f _ i j, HB.out⟩
        case round =>
        obtain ⟨t, ht, rfl, sx, sy, hb⟩ := hrel
        clear SX SY HB
        by_cases hlt2 : t < n
        · have it : (t : Int) < (n : Int) := by omega
          have xh := sx.hdr k hlt
          have yh := sy.hdr k hlt
          have xc := sx.cell k hlt t hlt2
          have yc := sy.cell k hlt t hlt2
          have ex : sclp k f t W1 k t = W1 k t := by unfold sclp; rw [if_neg (by omega)]
          have ey : sclp k f t (hi n W1) k t = W1 k (n + t) := by unfold sclp; rw [if_neg (by omega)]; rfl
          rw [ex] at xc
          rw [ey] at yc
          have fx := sx.soft k hlt t hlt2
          have fy := sy.soft k hlt t hlt2
          have lx := LW1.out k t
          have ly := LW1.out k (n + t)
          have gx := sx.gin k hlt
          have gy := sy.gin k hlt
          have cX := fun w => rmul_still (W1 k t) f w lx lf
          have cY := fun w => rmul_still (W1 k (n + t)) f w ly lf
          have lmx := M_lt f lx
          have lmy := M_lt f ly
          have S1 : Hid (Sq ((wr.setCell ⟨Gx2 k, t, none⟩ (.int .u8 ((M (W1 k t) f : Nat) : Int))).setCell ⟨Gy2 k, t, none⟩ (.int .u8 ((M (W1 k (n + t)) f : Nat) : Int))).drew l0 t1 hx n Gx2 Cx2 (sclp k f (t + 1) W1)) :=
            (((sx.put hlt hlt2).congr fun i _ j _ => sclp_put i j).far (.inr gy.1)).drewN 1
          have S2 : Hid (Sq ((wr.setCell ⟨Gx2 k, t, none⟩ (.int .u8 ((M (W1 k t) f : Nat) : Int))).setCell ⟨Gy2 k, t, none⟩ (.int .u8 ((M (W1 k (n + t)) f : Nat) : Int))).drew t1 t2 hy n Gy2 Cy2 (sclp k f (t + 1) (hi n W1))) :=
            (((sy.far (.inl gx.2)).put hlt hlt2).congr fun i _ j _ => sclp_put (W := hi n W1) i j).drewN 1
          have S3 : Hid (Below w.heap.size w ((wr.setCell ⟨Gx2 k, t, none⟩ (.int .u8 ((M (W1 k t) f : Nat) : Int))).setCell ⟨Gy2 k, t, none⟩ (.int .u8 ((M (W1 k (n + t)) f : Nat) : Int))).drew) :=
            ((hb.setCell (p := ⟨Gx2 k, t, none⟩) (by simp; omega) _).setCell (p := ⟨Gy2 k, t, none⟩) (by simp; omega) _).drew
          have yc2 : (wr.setCell ⟨Gx2 k, t, none⟩ (.int .u8 ((M (W1 k t) f : Nat) : Int))).cell? ⟨Gy2 k, t, none⟩ = some (.int .u8 ((W1 k (n + t) : Nat) : Int)) := by
            rw [cell_far (by omega)]; exact yc
          have nx1 := sx.ne k hlt
          have ny1 := sy.ne k hlt
          have nhx := sx.hin
          have nhy := sy.hin
          have kx1 : (wr.setCell ⟨Gx2 k, t, none⟩ (.int .u8 ((M (W1 k t) f : Nat) : Int))).cell? ⟨hx, k, none⟩ = some (.slice (some ⟨Gx2 k, 0, none⟩) n (Cx2 k)) := by rw [cell_far nx1]; exact xh
          have ky1 : (wr.setCell ⟨Gx2 k, t, none⟩ (.int .u8 ((M (W1 k t) f : Nat) : Int))).cell? ⟨hy, k, none⟩ = some (.slice (some ⟨Gy2 k, 0, none⟩) n (Cy2 k)) := by rw [cell_far (by omega)]; exact yh
          have kx2 : ((wr.setCell ⟨Gx2 k, t, none⟩ (.int .u8 ((M (W1 k t) f : Nat) : Int))).setCell ⟨Gy2 k, t, none⟩ (.int .u8 ((M (W1 k (n + t)) f : Nat) : Int))).cell? ⟨hx, k, none⟩ = some (.slice (some ⟨Gx2 k, 0, none⟩) n (Cx2 k)) := by rw [cell_far (by omega)]; exact kx1
          have ky2 : ((wr.setCell ⟨Gx2 k, t, none⟩ (.int .u8 ((M (W1 k t) f : Nat) : Int))).setCell ⟨Gy2 k, t, none⟩ (.int .u8 ((M (W1 k (n + t)) f : Nat) : Int))).cell? ⟨hy, k, none⟩ = some (.slice (some ⟨Gy2 k, 0, none⟩) n (Cy2 k)) := by rw [cell_far ny1]; exact ky1
          clear sx sy hb ex ey gx gy nx1 ny1 nhx nhy
          generalize M (W1 k t) f = mx at *
          generalize M (W1 k (n + t)) f = my at *
          generalize hvx : W1 k t = vx at *
          generalize hvy : W1 k (n + t) = vy at *
          clear hvx hvy
          generalize Gx2 k = gx at *
          generalize Gy2 k = gy at *
          generalize Cx2 k = ccx at *
          generalize Cy2 k = ccy at *
          go_wp2
          refine wp_region_any (by kernel_rfl) ?_
          change wpAny _ _ _ _ _ _ _ wr.drew
          refine wpAny_take (i := 9) (v := ?_) rfl (by kernel_rfl) (by kernel_rfl) (by kernel_rfl) (fun _ _ _ h => h) (Or.inl ⟨by rfl, ?_⟩) ?_
          rotate_left
          · intro w; go_simp; with_reducible rfl
          refine any_parts 28 9 _ [0, 1, 2, 3, 4, 5, 6, 7, 8, 10, 11, 12, 13, 14, 15, 16, 17, 18, 19, 20, 21, 22, 23, 24, 25, 26, 27] #[true, true, true, true, true, true, true, true, true, true, true, true, true, true, true, true, true, true, true, true, true, true, true, true, true, true, true, true, false, false, false, false] (by kernel_rfl) (by omega) (by kernel_rfl) (by kernel_rfl) (by rfl) (by rfl) ?_
          simp only [List.take_succ_cons, List.take_zero, List.drop_succ_cons, List.drop_zero, List.cons_append, List.nil_append]
          repeat still_step
          still_call (cX _)
          repeat still_step
          still_call (cY _)
          repeat still_step
          refine wpStill_nil ?_
          go_wp2
          go_round
          case rel => exact ⟨t + 1, by omega, by go_num, S1.out, S2.out, S3.out⟩
          case measure => simp [intOf]; omega
        · have etn : t = n := by omega
          rw [etn] at sx sy
          obtain ⟨S, hS⟩ : ∃ S, S = scl k f W1 := ⟨_, rfl⟩
          have SX : Hid (Sq wr l0 t1 hx n Gx2 Cx2 S) := sx.congr fun i _ j hj => by rw [hS]; exact sclp_full i j hj
          have SY : Hid (Sq wr t1 t2 hy n Gy2 Cy2 (hi n S)) := sy.congr fun i _ j hj => by rw [hS]; exact sclp_full (W := hi n W1) i j hj
          have LS : Hid (B S) := by rw [hS]; exact scl_B LW1.out
          have HEnd : Hid (stp k n S = clr n k p W) := by show stp k n S = clr n k p W; unfold clr; rw [hS, HFF.out, HW1.out]
          have HB : Hid (Below w.heap.size w wr) := hb
          clear sx sy hb hS HFF HW1 LW1 lf
          go_wp2
          clear etn hlt2
          go_loopw [12] (fun v wr => ∃ r : Nat, r ≤ n ∧ v = .int .i64 r ∧ Sq wr l0 t1 hx n Gx2 Cx2 (stp k r S) ∧ Sq wr t1 t2 hy n Gy2 Cy2 (hi n (stp k r S)) ∧ Below w.heap.size w wr) (fun v _ => n - (intOf v).toNat)
          case atStart => exact ⟨0, by omega, rfl, by rw [stp_zero]; exact SX.out, by rw [stp_zero]; exact SY.out, HB.out⟩
          case round =>
          obtain ⟨r, hr, rfl, sx, sy, hb⟩ := hrel
          clear SX SY HB
          by_cases hlr : r < n
          · have ir : (r : Int) < (n : Int) := by omega
            have xh := sx.hdr r hlr
            have xc := sx.cell r hlr k hlt
            have eg : stp k r S r k = S r k := by unfold stp; rw [if_neg (by omega)]
            rw [eg] at xc
            have lg := LS.out r k
            obtain ⟨T, hT⟩ : ∃ T, T = stp k r S := ⟨_, rfl⟩
            have LT : Hid (B T) := by rw [hT]; exact stp_B LS.out
            have HT : Hid (T = stp k r S) := hT
            rw [← hT] at sx sy
            clear hT eg
            obtain ⟨g, hg⟩ : ∃ g, g = S r k := ⟨_, rfl⟩
            have HG : Hid (g = S r k) := hg
            rw [← hg] at xc lg
            clear hg
            have SX : Hid (Sq wr l0 t1 hx n Gx2 Cx2 T) := sx
            have SY : Hid (Sq wr t1 t2 hy n Gy2 Cy2 (hi n T)) := sy
            have HB : Hid (Below w.heap.size w wr) := hb
            clear sx sy hb
            generalize Gx2 r = ggr at xh xc
            generalize Cx2 r = ccr at xh
            go_wp2
            clear xh xc
            go_loopw [14] (fun v wr => ∃ t : Nat, t ≤ n ∧ v = .int .i64 t ∧ (r = k ∨ g = 0 → t = 0) ∧ Sq wr l0 t1 hx n Gx2 Cx2 (addp r k g t T) ∧ Sq wr t1 t2 hy n Gy2 Cy2 (addp r k g t (hi n T)) ∧ Below w.heap.size w wr) (fun v _ => n - (intOf v).toNat)
            case atStart => exact ⟨0, by omega, rfl, fun _ => rfl, SX.out.congr fun i _ j _ => addp_zero r k g T i j, SY.out.congr fun i _ j _ => addp_zero r k g _ i j, HB.out⟩
            case round =>
            obtain ⟨t, ht, rfl, hidle, sx, sy, hb⟩ := hrel
            clear SX SY HB
            by_cases hrk : r = k
            · have et : t = 0 := hidle (.inl hrk)
              subst et
              subst hrk
              have SX : Hid (Sq wr l0 t1 hx n Gx2 Cx2 (stp r (r + 1) S)) := by rw [stp_own, ← HT.out]; exact sx.congr fun i _ j _ => (addp_zero r r g T i j).symm
              have SY : Hid (Sq wr t1 t2 hy n Gy2 Cy2 (hi n (stp r (r + 1) S))) := by rw [stp_own, ← HT.out]; exact sy.congr fun i _ j _ => (addp_zero r r g (hi n T) i j).symm
              have HB : Hid (Below w.heap.size w wr) := hb
              have z1 : ((r : Int) != (r : Int)) = false := by simp
              clear sx sy hb hidle
              go_wp2
              go_round
              case rel => exact ⟨r + 1, by omega, by go_num, SX.out, SY.out, HB.out⟩
              case measure => simp [intOf]; omega
            · have z1 : ((r : Int) != (k : Int)) = true := by simp; omega
              have z1' : ((r : Int) == (k : Int)) = false := by simp; omega
              by_cases hg0 : g = 0
              · have et : t = 0 := hidle (.inr hg0)
                subst et
                have ez : ∀ (M' : Nat → Nat → Nat) (i j : Nat), M' i j = addr r k (S r k) M' i j := fun M' i j => by
                  unfold addr; rw [← HG.out, hg0, M_zero_left, Nat.xor_zero]; split <;> first | rfl | (rename_i e; rw [e])
                have SX : Hid (Sq wr l0 t1 hx n Gx2 Cx2 (stp k (r + 1) S)) := by
                  rw [stp_succ S hrk, ← HT.out]; exact sx.congr fun i _ j _ => (addp_zero r k g T i j).symm.trans (ez T i j)
                have SY : Hid (Sq wr t1 t2 hy n Gy2 Cy2 (hi n (stp k (r + 1) S))) := by
                  rw [stp_succ S hrk, ← HT.out]; exact sy.congr fun i _ j _ => (addp_zero r k g (hi n T) i j).symm.trans (ez (hi n T) i j)
                have HB : Hid (Below w.heap.size w wr) := hb
                clear sx sy hb hidle ez
                subst hg0
                go_wp2
                go_round
                case rel => exact ⟨r + 1, by omega, by go_num, SX.out, SY.out, HB.out⟩
                case measure => simp [intOf]; omega
              · have hg1 : ((g : Nat) : Int) ≠ 0 := by omega
                by_cases hlt3 : t < n
                · have it : (t : Int) < (n : Int) := by omega
                  have xr := sx.hdr r hlr
                  have xk := sx.hdr k hlt
                  have xrt := sx.cell r hlr t hlt3
                  have xkt := sx.cell k hlt t hlt3
                  have e1 : addp r k g t T r t = T r t := by unfold addp; rw [if_neg (by omega)]
                  have e2 : addp r k g t T k t = T k t := by unfold addp; rw [if_neg (by omega)]
                  rw [e1] at xrt
                  rw [e2] at xkt
                  have fx := sx.soft r hlr t hlt3
                  have lr := LT.out r t
                  have lk := LT.out k t
                  have lm := M_lt (T k t) lg
                  have lz := xor_lt lr lm
                  have gx := sx.gin r hlr
                  have cX := fun w => rmul_still g (T k t) w lg lk
                  have hxx : bits .xor .u8 ((T r t : Nat) : Int) ((M g (T k t) : Nat) : Int) = ((T r t ^^^ M g (T k t) : Nat) : Int) := u8_xor_nat _ _ lr lm
                  have S1 : Hid (Sq (wr.setCell ⟨Gx2 r, t, none⟩ (.int .u8 ((T r t ^^^ M g (T k t) : Nat) : Int))).drew l0 t1 hx n Gx2 Cx2 (addp r k g (t + 1) T)) := ((sx.put hlr hlt3).congr fun i _ j _ => addp_put i j).drewN 1
                  have S2 : Hid (Sq (wr.setCell ⟨Gx2 r, t, none⟩ (.int .u8 ((T r t ^^^ M g (T k t) : Nat) : Int))).drew t1 t2 hy n Gy2 Cy2 (addp r k g t (hi n T))) := (sy.far (.inl gx.2)).drewN 1
                  have S3 : Hid (Below w.heap.size w (wr.setCell ⟨Gx2 r, t, none⟩ (.int .u8 ((T r t ^^^ M g (T k t) : Nat) : Int))).drew) := (hb.setCell (p := ⟨Gx2 r, t, none⟩) (by simp; omega) _).drew
                  clear sx sy hb e1 e2 gx
                  generalize hz : T r t ^^^ M g (T k t) = z at *
                  generalize M g (T k t) = m at *
                  generalize T k t = vk at *
                  generalize T r t = vr at *
                  clear hz
                  generalize Gx2 r = gr at *
                  generalize Gx2 k = gk at *
                  generalize Cx2 r = cr at *
                  generalize Cx2 k = ck at *
                  go_upto_region 27 with fail
                  go_cut [] (fun wx => Sq wx l0 t1 hx n Gx2 Cx2 (addp r k g (t + 1) T) ∧ Sq wx t1 t2 hy n Gy2 Cy2 (addp r k g t (hi n T)) ∧ Below w.heap.size w wx)
                  case first =>
                    refine wp_region_still_tail 22 (by kernel_rfl) (by kernel_rfl) ?_
                    change wpStill _ _ wr.drew _ _ _
                    simp only [List.take_succ_cons, List.take_zero, List.drop_succ_cons, List.drop_zero]
                    repeat still_step
                    still_call (cX _)
                    repeat still_step
                    refine wpStill_nil ?_
                    go_wp2_with fail
                    go_meet
                    exact ⟨S1.out, S2.out, S3.out⟩
                  case rest =>
                  obtain ⟨sx, sy, hb⟩ := hcut
                  clear S1 S2 S3 xr xk xrt xkt fx lr lk lm lz cX hxx
                  have xr := sy.hdr r hlr
                  have xk := sy.hdr k hlt
                  have xrt := sy.cell r hlr t hlt3
                  have xkt := sy.cell k hlt t hlt3
                  have e1 : addp r k g t (hi n T) r t = hi n T r t := by unfold addp; rw [if_neg (by omega)]
                  have e2 : addp r k g t (hi n T) k t = hi n T k t := by unfold addp; rw [if_neg (by omega)]
                  rw [e1] at xrt
                  rw [e2] at xkt
                  have fx := sy.soft r hlr t hlt3
                  have lr : hi n T r t < 256 := LT.out r (n + t)
                  have lk : hi n T k t < 256 := LT.out k (n + t)
                  have lm := M_lt (hi n T k t) lg
                  have lz := xor_lt lr lm
                  have gy := sy.gin r hlr
                  have cX := fun w => rmul_still g (hi n T k t) w lg lk
                  have hxx : bits .xor .u8 ((hi n T r t : Nat) : Int) ((M g (hi n T k t) : Nat) : Int) = ((hi n T r t ^^^ M g (hi n T k t) : Nat) : Int) := u8_xor_nat _ _ lr lm
                  have S1 : Hid (Sq (wc.setCell ⟨Gy2 r, t, none⟩ (.int .u8 ((hi n T r t ^^^ M g (hi n T k t) : Nat) : Int))).drew l0 t1 hx n Gx2 Cx2 (addp r k g (t + 1) T)) := (sx.far (.inr gy.1)).drewN 1
                  have S2 : Hid (Sq (wc.setCell ⟨Gy2 r, t, none⟩ (.int .u8 ((hi n T r t ^^^ M g (hi n T k t) : Nat) : Int))).drew t1 t2 hy n Gy2 Cy2 (addp r k g (t + 1) (hi n T))) := ((sy.put hlr hlt3).congr fun i _ j _ => addp_put (W := hi n T) i j).drewN 1
                  have S3 : Hid (Below w.heap.size w (wc.setCell ⟨Gy2 r, t, none⟩ (.int .u8 ((hi n T r t ^^^ M g (hi n T k t) : Nat) : Int))).drew) := (hb.setCell (p := ⟨Gy2 r, t, none⟩) (by simp; omega) _).drew
                  have HID : Hid (r = k ∨ g = 0 → t + 1 = 0) := fun q => absurd q (by omega)
                  clear sx sy hb e1 e2 gy hidle
                  generalize hz : hi n T r t ^^^ M g (hi n T k t) = z at *
                  generalize M g (hi n T k t) = m at *
                  generalize hi n T k t = vk at *
                  generalize hi n T r t = vr at *
                  clear hz
                  generalize Gy2 r = gr at *
                  generalize Gy2 k = gk at *
                  generalize Cy2 r = cr at *
                  generalize Cy2 k = ck at *
                  go_wp2
                  refine wp_region_still_tail 22 (by kernel_rfl) (by kernel_rfl) ?_
                  change wpStill _ _ wc.drew _ _ _
                  simp only [List.take_succ_cons, List.take_zero, List.drop_succ_cons, List.drop_zero]
                  repeat still_step
                  still_call (cX _)
                  repeat still_step
                  refine wpStill_nil ?_
                  go_wp2
                  go_round
                  case rel => exact ⟨t + 1, by omega, by go_num, HID.out, S1.out, S2.out, S3.out⟩
                  case measure => simp [intOf]; omega
                · have etn : t = n := by omega
                  rw [etn] at sx sy
                  have SX : Hid (Sq wr l0 t1 hx n Gx2 Cx2 (stp k (r + 1) S)) := by
                    rw [stp_succ S hrk, ← HT.out, ← HG.out]; exact sx.congr fun i _ j hj => addp_full i j hj
                  have SY : Hid (Sq wr t1 t2 hy n Gy2 Cy2 (hi n (stp k (r + 1) S))) := by
                    rw [stp_succ S hrk, ← HT.out, ← HG.out]; exact sy.congr fun i _ j hj => addp_full (W := hi n T) i j hj
                  have HB : Hid (Below w.heap.size w wr) := hb
                  clear sx sy hb hidle
                  subst etn
                  go_wp2
                  go_round
                  case rel => exact ⟨r + 1, by omega, by go_num, SX.out, SY.out, HB.out⟩
                  case measure => simp [intOf]; omega
          · have ern : r = n := by omega
            rw [ern, HEnd.out] at sx sy
            have HX : Hid (∃ W Gx Cx Gy Cy, Sq wr l0 t1 hx n Gx Cx W ∧ Sq wr t1 t2 hy n Gy Cy (hi n W) ∧ Elim n F W (hi n W) ∧ ∀ i, i < n → ∀ j, j < k + 1 → W i j = one i j) :=
              ⟨_, _, _, _, _, sx, sy, elim_clr HE.out HF.out hlt hp, clr_red HE.out.bx HR.out hkp hp HW.out⟩
            have HB : Hid (Below w.heap.size w wr) := hb
            clear sx sy hb
            subst ern
            go_wp2
            go_round
            case rel => exact ⟨k + 1, by omega, by go_num, HX.out, HB.out⟩
            case measure => simp [intOf]; omega
    · have : p = n := by omega
      subst this
      exact absurd HI.out (HE.out.stuck HF.out hlt HR.out (fun r h1 h2 => HZ.out r h1 h2))
  · have : k = n := by omega
    subst this
    have HD : Hid (IsInv k F (hi k W)) := HE.out.done HF.out HR.out
    have HB : Hid (B (hi k W)) := HE.out.bys
    go_wp2
    go_ret2
    exact ⟨hy, cy, Gy, Cy, hi k W, t1, t2, rfl, SY.out, HB.out, HD.out, hb⟩
end Go.Proofs.YtebngmgdciahiaaGreatDoor.Rz

namespace Go.Proofs.YtebngmgdciahiaaGreatDoor.Rz
open Go.RowKit Gf
attribute [local go_sem ↓] Go.wp_at_zero Go.wp_at_succ

theorem Bld.form2 {w : World} {base k : Nat} {v : Value} {A : Nat → Option Addr} {L C : Nat → Nat} {F : Nat → Nat → Nat} (b : Bld w base v k A L C F) (hk : 1 ≤ k) : ∃ a c, v = .slice (some a) k c ∧ k ≤ c := by
  rcases b.own.2 with ⟨_, e⟩ | ⟨g, cap, cur, rfl, _, _, hc, _⟩
  · omega
  · exact ⟨_, cap, rfl, hc⟩

set_option maxRecDepth 100000 in
set_option maxHeartbeats 2000000 in
theorem rsystematic_yes (k m : Nat) (w : World) (k1 : 1 ≤ k) (m1 : 1 ≤ m) (hkm : k + m ≤ 255) :
    Calls Tryz.prog 87 #[.int .i64 k, .int .i64 m] w fun e w' => ∃ v X base, e = .returned (.tuple #[v, .bool true]) ∧ IsInv k V X ∧ B X ∧ Built w' base v (k + m) (fun _ => k) (mm k V X) ∧ Below w.heap.size w w' := by
  have cV := rvander_any (k + m) k w (by omega) (by omega) k1 (by omega)
  have q : ((k + m : Nat) : Int) = (k : Int) + (m : Int) := by omega
  rw [q] at cV
  clear q
  have g1 : (m : Int) ≤ 255 - (k : Int) := by omega
  go_enter Tryz.func87, Tryz.ntmps87
  go_wp2_with fail
  go_at_call 106
  refine cV.mono ?_
  rintro e w1 ⟨v1, rfl, ⟨A1, C1, bl1⟩, b1⟩
  obtain ⟨a1, c1, rfl, hc1⟩ := bl1.form2 (by omega)
  have m1' := bl1.mat (fun _ => by omega) V_B
  have HM : Hid (Mat w1 (some a1) (k + m) A1 (fun _ => k) C1 V) := m1'
  have cI := rinvert_any (some a1) k c1 A1 C1 V w1 (m1'.take (by omega)) k1 (by omega) (V_inj (by omega))
  clear bl1 m1' cV
  have ic : (k : Int) ≤ (c1 : Int) := by omega
  go_wp2_with fail
  go_at_call 107
  refine cI.mono ?_
  rintro e w2 ⟨hy, cy, Gy, Cy, X, lo, top, rfl, sq, lX, iv, b2⟩
  clear cI
  have b02 : Below w.heap.size w w2 := b1.trans (b2.mono b1.size)
  have cM := rmulMat_any (some a1) (some ⟨hy, 0, none⟩) (k + m) k k c1 cy A1 _ C1 Cy V X w2 (HM.out.keep b2) (sq.mat (by omega) lX) (by omega) hkm k1 (by omega) k1 (by omega)
  have HI : Hid (IsInv k V X) := iv
  have HX : Hid (B X) := lX
  clear sq lX iv HM
  go_wp2_with fail
  go_at_call 108
  refine cM.mono ?_
  rintro e w3 ⟨v3, rfl, bl3, b3⟩
  clear cM
  have HB : Hid (Built w3 w2.heap.size v3 (k + m) (fun _ => k) (mm k V X)) := bl3
  have b03 : Below w.heap.size w w3 := b02.trans (b3.mono b02.size)
  clear bl3
  go_wp2
  go_ret2
  exact ⟨v3, X, _, rfl, HI.out, HX.out, HB.out, b03⟩

/-- So many numbers, all unlike, below q: they are at most q. -/
theorem pigeon : ∀ (q N : Nat) (f : Nat → Nat), (∀ x, x < N → f x < q) → (∀ x, x < N → ∀ y, y < N → f x = f y → x = y) → N ≤ q
  | 0, N, f, h, _ => by
    rcases Nat.eq_zero_or_pos N with z | z
    · omega
    · have := h 0 z; omega
  | q + 1, 0, _, _, _ => by omega
  | q + 1, N + 1, f, h, hi => by
    have := pigeon q N (fun x => if f x = q then f N else f x) (fun x hx => by
      have h1 := h x (by omega)
      have h2 := h N (by omega)
      split
      · rename_i e
        rcases Nat.lt_or_ge (f N) q with z | z
        · exact z
        · have := hi x (by omega) N (by omega) (by omega); omega
      · omega) (fun x hx y hy e => by
      by_cases ex : f x = q
      · by_cases ey : f y = q
        · exact hi x (by omega) y (by omega) (by omega)
        · rw [if_pos ex, if_neg ey] at e
          have := hi N (by omega) y (by omega) e; omega
      · by_cases ey : f y = q
        · rw [if_neg ex, if_pos ey] at e
          have := hi x (by omega) N (by omega) e; omega
        · rw [if_neg ex, if_neg ey] at e
          exact hi x (by omega) y (by omega) e)
    omega

/-- Fewer than N numbers leave one below N out. -/
theorem left_out {q N : Nat} {g : Nat → Int} (hq : q < N) : ∃ x, x < N ∧ ∀ i, i < q → g i ≠ (x : Int) := by
  apply Classical.byContradiction
  intro hno
  have all : ∀ x, x < N → ∃ i, i < q ∧ g i = (x : Int) := fun x hx => by
    apply Classical.byContradiction
    intro h
    exact hno ⟨x, hx, fun i hi e => h ⟨i, hi, e⟩⟩
  have := pigeon q N (fun x => if h : x < N then Classical.choose (all x h) else 0) (fun x hx => by
    rw [dif_pos hx]; exact (Classical.choose_spec (all x hx)).1) (fun x hx y hy e => by
    rw [dif_pos hx, dif_pos hy] at e
    have h1 := (Classical.choose_spec (all x hx)).2
    have h2 := (Classical.choose_spec (all y hy)).2
    rw [e] at h1
    omega)
  omega

/-- How far it is, going round, from x to one that is left out. -/
def far (N : Nat) (free : Nat → Bool) (x : Nat) : Nat := (List.range N).findIdx fun d => free ((x + d) % N)
theorem far_step {N x : Nat} {free : Nat → Bool} (hN : 0 < N) (hx : x < N) (hno : free x = false) (hex : ∃ y, y < N ∧ free y = true) : far N free ((x + 1) % N) < far N free x := by
  obtain ⟨y, hy, hf⟩ := hex
  have hd : far N free x < N := by
    unfold far
    have : (List.range N).findIdx (fun d => free ((x + d) % N)) < (List.range N).length := by
      apply List.findIdx_lt_length_of_exists
      refine ⟨(y + N - x) % N, List.mem_range.2 (Nat.mod_lt _ hN), ?_⟩
      have e : (x + (y + N - x) % N) % N = y := by
        rw [Nat.add_mod_mod, show x + (y + N - x) = y + N by omega, Nat.add_mod_right, Nat.mod_eq_of_lt hy]
      rw [e]; exact hf
    simpa using this
  have hfree : free ((x + far N free x) % N) = true := by
    have h1 : (List.range N).findIdx (fun d => free ((x + d) % N)) < (List.range N).length := by simpa [far] using hd
    have := List.findIdx_getElem (w := h1)
    simpa [far] using this
  have hpos : 0 < far N free x := by
    rcases Nat.eq_zero_or_pos (far N free x) with z | z
    · rw [z, Nat.add_zero, Nat.mod_eq_of_lt hx, hno] at hfree; cases hfree
    · exact z
  have e : ((x + 1) % N + (far N free x - 1)) % N = (x + far N free x) % N := by
    rw [Nat.mod_add_mod]; congr 1; omega
  have : far N free ((x + 1) % N) ≤ far N free x - 1 := by
    show (List.range N).findIdx (fun d => free (((x + 1) % N + d) % N)) ≤ far N free x - 1
    apply Classical.byContradiction
    intro hgt
    have h2 := List.not_of_lt_findIdx (p := fun d => free (((x + 1) % N + d) % N)) (xs := List.range N) (i := far N free x - 1) (by omega)
    simp at h2
    rw [show x + 1 + (far N free x - 1) = x + far N free x by omega, hfree] at h2
    cases h2
  omega
end Go.Proofs.YtebngmgdciahiaaGreatDoor.Rz
