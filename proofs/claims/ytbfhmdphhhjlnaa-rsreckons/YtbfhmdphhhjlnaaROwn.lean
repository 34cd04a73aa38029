/-
  Two slices that grow side by side in one statement, in whatever order; rows that are held out of such as were appended.
-/
import Derived.Test.YtbfhmdphhhjlnaaRRow
namespace Go.Proofs.Ytbfhmdphhhjlnaa
open Go.RowKit Gf

/-- One element more, which lies anywhere. -/
theorem own_push {W : World} {base k gb t e bytes : Nat} {z u : Value} {i : TypeInfo} {v : Value} {xs : List Value} (ht : Try.prog.underlying t = some (.slice e)) (hi : Try.prog.info? e = some i) (hz : i.zero = some z) (hs : i.size = 1) (hby : i.bytes = bytes) (hzs : z.cells.size = 1)
    (h : W.ownsRow base e 1 v k xs) (hc : W.cell? ⟨gb, 0, none⟩ = some u) (hu : u.oneCell' = true) (hk : k + 1 ≤ 1000) (hb : bytes ≤ 100) (hbase : base ≤ W.heap.size) :
    ∃ v' W', Sem.run Try.prog (Builtin.append_ #[t, t] t #[v, .slice (some ⟨gb, 0, none⟩) 1 1]) W = .ok v' W' ∧ W'.ownsRow base e 1 v' (k + 1) (xs ++ [u]) ∧ W.grownBy W' v.ownBlock ∧ (v'.ownBlock = v.ownBlock ∨ v'.ownBlock = some W.heap.size) := by
  have hm : (k + 1) * bytes ≤ 1000 * 100 := Nat.mul_le_mul hk hb
  obtain ⟨v', W', hr, hown, hgrow, _, hblk⟩ := run_append_own_at (P := Try.prog) W base t t e i z 1 bytes ht hi hz hs hby hzs (by omega) v k xs h ⟨gb, 0, none⟩ 1 1 [u] (by simp)
    (fun j x hx => by
      cases j with
      | zero => simp at hx; rw [← hx, add_plain]; exact hc
      | succ j => simp at hx) (fun x hx => by simp at hx; rw [hx]; exact hu) (by unfold maxLen; omega) (by omega) hbase
  exact ⟨v', W', hr, hown, hgrow, hblk⟩

/-- Two rows of cells that grow side by side: numbers and headers. -/
structure Duo (W : World) (base : Nat) (v8 v9 : Value) (k : Nat) (xs ys : List Value) : Prop where
  a : W.ownsRow base 3 1 v8 k xs
  b : W.ownsRow base 30 1 v9 k ys
  ne : v8.ownBlock = none ∨ v8.ownBlock ≠ v9.ownBlock

theorem Duo.keep {W W' : World} {base k : Nat} {v8 v9 : Value} {xs ys : List Value} (d : Duo W base v8 v9 k xs ys) (hb : Below W.heap.size W W') : Duo W' base v8 v9 k xs ys :=
  ⟨d.a.kept (grown_of_below (row := none) hb) (by cases v8.ownBlock <;> simp), d.b.kept (grown_of_below (row := none) hb) (by cases v9.ownBlock <;> simp), d.ne⟩

/-- Both appends, one behind the other, the elements lying anywhere; between them something may be laid. -/
theorem Duo.push {W : World} {base k g8 : Nat} {v8 v9 u8 : Value} {xs ys : List Value} (d : Duo W base v8 v9 k xs ys) (hbase : base ≤ W.heap.size) (h8 : W.cell? ⟨g8, 0, none⟩ = some u8) (o8 : u8.oneCell' = true) (hk : k + 1 ≤ 1000) :
    ∃ v8' W1, Sem.run Try.prog (Builtin.append_ #[63, 63] 63 #[v8, .slice (some ⟨g8, 0, none⟩) 1 1]) W = .ok v8' W1 ∧ Below base W W1 ∧ W.heap.size ≤ W1.heap.size ∧ (∀ g u, g < W.heap.size → some g ≠ v8.ownBlock → W.cell? ⟨g, 0, none⟩ = some u → W1.cell? ⟨g, 0, none⟩ = some u) ∧
      ∀ (W2 : World) (g9 : Nat) (u9 : Value), Below W1.heap.size W1 W2 → W2.cell? ⟨g9, 0, none⟩ = some u9 → u9.oneCell' = true → ∃ v9' W3, Sem.run Try.prog (Builtin.append_ #[27, 27] 27 #[v9, .slice (some ⟨g9, 0, none⟩) 1 1]) W2 = .ok v9' W3 ∧ Duo W3 base v8' v9' (k + 1) (xs ++ [u8]) (ys ++ [u9]) ∧ Below base W W3 := by
  obtain ⟨i3, hi3, hz3⟩ := Option.map_eq_some_iff.1 info3
  obtain ⟨i30, hi30, hz30⟩ := Option.map_eq_some_iff.1 info27
  simp only [Prod.mk.injEq] at hz3 hz30
  obtain ⟨v8', W1, hr1, own1, grow1, blk1⟩ := own_push Try.underlying63 hi3 hz3.1 hz3.2.1 hz3.2.2 rfl d.a h8 o8 hk (by omega) hbase
  have lt8 : ∀ g, v8.ownBlock = some g → base ≤ g ∧ g < W.heap.size := d.a.lt
  have lt9 : ∀ g, v9.ownBlock = some g → base ≤ g ∧ g < W.heap.size := d.b.lt
  have b1 : Below base W W1 := (Below.refl base W).grown grow1 hbase fun g hg => (lt8 g hg).1
  have own9 : W1.ownsRow base 30 1 v9 k ys := d.b.kept grow1 (nn d.ne)
  have ne1 : v8'.ownBlock = none ∨ v8'.ownBlock ≠ v9.ownBlock := by
    rcases blk1 with q | q
    · rw [q]; exact d.ne
    · rw [q]; right; intro e
      have := lt9 _ e.symm
      omega
  refine ⟨v8', W1, hr1, b1, grow1.size, fun g u hg hne hc => ?_, fun W2 g9 u9 hb2 h9 o9 => ?_⟩
  · rw [World.cell?_of_block (w := W) (a := ⟨g, 0, none⟩) (grow1.block g hg hne)]; exact hc
  · have a2 : W2.ownsRow base 3 1 v8' (k + 1) (xs ++ [u8]) := own1.kept (grown_of_below (row := none) hb2) (by cases v8'.ownBlock <;> simp)
    have c2 : W2.ownsRow base 30 1 v9 k ys := own9.kept (grown_of_below (row := none) hb2) (by cases v9.ownBlock <;> simp)
    have hs2 := hb2.size
    have hs1 := grow1.size
    obtain ⟨v9', W3, hr3, own3, grow3, blk3⟩ := own_push Try.underlying27 hi30 hz30.1 hz30.2.1 hz30.2.2 rfl c2 h9 o9 hk (by omega) (by omega)
    have b3 : Below base W2 W3 := (Below.refl base W2).grown grow3 (by omega) fun g hg => (lt9 g hg).1
    refine ⟨v9', W3, hr3, ⟨a2.kept grow3 ne1, own3, ?_⟩, b1.trans ((hb2.mono (by omega)).trans b3)⟩
    rcases blk3 with q | q
    · rw [q]; exact ne1
    · rcases ne1 with z | z
      · exact .inl z
      · right; rw [q]; intro e
        have := a2.lt _ e
        omega

/-- Rows that were appended, held. -/
theorem Rws.hold {w : World} {base k : Nat} {v : Value} {L : Nat → Nat} {F : Nat → Nat → Nat} (b : Rws w base v k L F) (k1 : 1 ≤ k) (hle : ∀ i, L i ≤ 9223372036854775807) (hF : B F) :
    ∃ h c A C, v = .slice (some ⟨h, 0, none⟩) k c ∧ Hold w h k A L C F ∧ base ≤ h := by
  obtain ⟨A, C, b⟩ := b
  rcases b.own.2 with ⟨_, e0⟩ | ⟨h, cap, cur, e, hb, _⟩
  · omega
  · subst e
    refine ⟨h, cap, A, C, rfl, ⟨⟨fun _ => ⟨h, 0, rfl, fun i hi => ?_⟩, b.row, b.nil, hle, hF⟩, fun i _ => b.own.frozenAt i⟩, hb⟩
    rw [Nat.zero_add, b.own.cellAt i (by omega)]
    simp [hi]
end Go.Proofs.Ytbfhmdphhhjlnaa
