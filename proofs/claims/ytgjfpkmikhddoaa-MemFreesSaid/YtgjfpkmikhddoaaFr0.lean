/-
  The law MemFrees at each number of slots and of ticks, at class 0: reckoned by a verified evaluator; no condition.
-/
import Derived.Test.YtgjfpkmikhddoaaMem
namespace Go.Proofs.Ytgjfpkmikhddoaa
open Go Go.RowKit
set_option maxRecDepth 1000000
set_option linter.all false
theorem fr_0_0_0 : FrP 0 0 0 := by unfold FrP; kernel_rfl
theorem fr_0_1_0 : FrP 0 1 0 := by unfold FrP; kernel_rfl
theorem fr_0_2_0 : FrP 0 2 0 := by unfold FrP; kernel_rfl
theorem fr_0_3_0 : FrP 0 3 0 := by unfold FrP; kernel_rfl
theorem fr_0_4_0 : FrP 0 4 0 := by unfold FrP; kernel_rfl
theorem fr_1_0_0 : FrP 1 0 0 := by unfold FrP; kernel_rfl
theorem fr_1_1_0 : FrP 1 1 0 := by unfold FrP; kernel_rfl
theorem fr_1_2_0 : FrP 1 2 0 := by unfold FrP; kernel_rfl
theorem fr_1_3_0 : FrP 1 3 0 := by unfold FrP; kernel_rfl
theorem fr_1_4_0 : FrP 1 4 0 := by unfold FrP; kernel_rfl
theorem fr_2_0_0 : FrP 2 0 0 := by unfold FrP; kernel_rfl
theorem fr_2_1_0 : FrP 2 1 0 := by unfold FrP; kernel_rfl
theorem fr_2_2_0 : FrP 2 2 0 := by unfold FrP; kernel_rfl
theorem fr_2_3_0 : FrP 2 3 0 := by unfold FrP; kernel_rfl
theorem fr_2_4_0 : FrP 2 4 0 := by unfold FrP; kernel_rfl
theorem fr_3_0_0 : FrP 3 0 0 := by unfold FrP; kernel_rfl
theorem fr_3_1_0 : FrP 3 1 0 := by unfold FrP; kernel_rfl
theorem fr_3_2_0 : FrP 3 2 0 := by unfold FrP; kernel_rfl
theorem fr_3_3_0 : FrP 3 3 0 := by unfold FrP; kernel_rfl
theorem fr_3_4_0 : FrP 3 4 0 := by unfold FrP; kernel_rfl
end Go.Proofs.Ytgjfpkmikhddoaa
