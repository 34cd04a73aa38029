/-
  symMerge over a row of elements of k cells: two sorted parts become one.
-/
import Derived.Test.YtahnkkifegdjeaaStC
import Derived.Test.YtahnkkifegdjeaaStD
import Derived.Test.YtahnkkifegdjeaaStE
import Derived.Test.YtahnkkifegdjeaaStF
namespace Go.Proofs.Ytahnkkifegdjeaa
open Go.Shelf Go.RowKit Go.Lib Go.Sort Pg
set_option linter.unusedVariables false

theorem merge_all {P : Program} {α : Type} [Inhabited α] {k : Nat} (L : Ip P k) (enc : α → List Value) (cf : α → α → Int) (hO : SWO (ltOf cf)) (g : Nat) (cb : Array Value) (blk off cap : Nat) (d0 : Array α) (w0 : World)
    (eg : ∀ args w, (callFunc g args).run P w = .ok (.enter g args) w) (hC : CmpLays P g cb enc k cf blk off d0.size w0) (R : RowK enc k w0 blk off d0) (hsz : d0.size < 1152921504606846976) :
    ∀ (n a m b : Nat) (d : Array α) (w : World), b - a ≤ n → d0.size = d.size → SWK enc k w0 blk off d w → a < m → m < b → b ≤ d.size → SortedIn (ltOf cf) a m d → SortedIn (ltOf cf) m b d →
      Calls P 37 #[.slice (some ⟨blk, off, none⟩) d0.size cap, .int .i64 a, .int .i64 m, .int .i64 b, .func (.func g) #[] cb] w fun e w' => e = .returned (.tuple #[]) ∧ ∃ d', PermIn a b d d' ∧ SortedIn (ltOf cf) a b d' ∧ SWK enc k w0 blk off d' w' := by
  intro n
  induction n with
  | zero => intro a m b d w hn _ _ h1 h2; omega
  | succ n ih =>
    intro a m b d w hn hs S ham hmb hb h1 h2
    have HRR : ∀ (x y z : Nat) (dk : Array α) (W : World), z - x < b - a → x < y → y < z → z ≤ dk.size → dk.size = d.size → SWK enc k w0 blk off dk W → SortedIn (ltOf cf) x y dk → SortedIn (ltOf cf) y z dk →
      Calls P 37 #[.slice (some ⟨blk, off, none⟩) d.size cap, .int .i64 x, .int .i64 y, .int .i64 z, .func (.func g) #[] cb] W fun e w' => e = .returned (.tuple #[]) ∧ ∃ d', PermIn x z dk d' ∧ SortedIn (ltOf cf) x z d' ∧ SWK enc k w0 blk off d' w' := by
      intro x y z dk W q1 q2 q3 q4 q5 q6 q7 q8
      have := ih x y z dk W (by omega) (by omega) q6 q2 q3 q4 q7 q8
      rw [hs] at this
      exact this
    rw [hs]
    by_cases c1 : m ≤ a + 1
    · exact merge_one_l L enc cf hO g cb blk off cap a m b d0 d w0 w eg hC R hs S ham hmb hb (by omega) h1 h2 c1
    · by_cases c2 : b ≤ m + 1
      · exact merge_one_r L enc cf hO g cb blk off cap a m b d0 d w0 w eg hC R hs S ham hmb hb (by omega) h1 h2 (by omega) c2
      · by_cases c3 : (a + b) / 2 < m
        · exact merge_hi L enc cf hO g cb blk off cap a m b d0 d w0 w eg hC R hs S ham hmb hb (by omega) h1 h2 (by omega) (by omega) _ rfl c3 HRR
        · exact merge_lo L enc cf hO g cb blk off cap a m b d0 d w0 w eg hC R hs S ham hmb hb (by omega) h1 h2 (by omega) (by omega) _ rfl (by omega) HRR
end Go.Proofs.Ytahnkkifegdjeaa
