/-
  The law PackBack at any text and number; no condition beyond lengths that fit an int.
-/
import Derived.Test.YtdkokpaboipamaaPkQ
import Derived.Test.YtdkokpaboipamaaRuns
import Derived.Test.YtdkokpaboipamaaBase
namespace Go.Proofs.Ytdkokpaboipamaa
open Go.RowKit Go.WideShapes Go.ChangeShapes
set_option linter.all false
theorem back_any (s0 : ByteArray) (cut : Int) (w : World) : Calls Try.prog 4 #[.string s0, .int .i64 cut] w fun e w' => e = .returned (.bool true) ∧ Below w.heap.size w w' := by
  have main : ∀ s : ByteArray, s.size ≤ 200 → ∃ k : Nat, k ≤ s.size ∧ ∀ w, Calls Try.prog 18 #[.int .i64 cut, .int .i64 0, .int .i64 s.size] w fun e w' => e = .returned (.int .i64 k) ∧ w = w' := by
    intro s hs
    obtain ⟨k, hk, hk9⟩ := withinV_nat cut (s.size + 1) (by omega)
    refine ⟨k, by omega, fun w => ?_⟩
    have hw := within_any cut s.size (by omega) (by omega) w
    rw [show ((s.size : Int) + 1) = ((s.size + 1 : Nat) : Int) from by omega, hk] at hw
    exact hw
  by_cases hs : (200 : Int) < s0.size
  · have hz : (s0.extract 0 200).size ≤ 200 := by simp; omega
    obtain ⟨k, hk, hwi⟩ := main _ hz
    cases hn : ntB (s0.extract 0 200) k (s0.extract 0 200).size
    · exact back1f s0 _ _ cut k packRuns_any hwi hk hn rfl (zs_size _) (zs_head _) w rfl hs hz
    · exact back1t s0 _ _ cut k packRuns_any hwi hk hn rfl (zs_size _) (zs_head _) w rfl hs hz
  · have hz : s0.size ≤ 200 := by omega
    obtain ⟨k, hk, hwi⟩ := main _ hz
    cases hn : ntB s0 k s0.size
    · exact back0f s0 _ _ cut k packRuns_any hwi hk hn rfl (zs_size _) (zs_head _) w trivial trivial hz
    · exact back0t s0 _ _ cut k packRuns_any hwi hk hn rfl (zs_size _) (zs_head _) w trivial trivial hz
end Go.Proofs.Ytdkokpaboipamaa
