/-
  The law MemFrees at each number of slots and of ticks, at class 2: reckoned by a verified evaluator; no condition.
-/
import Derived.Test.YtgjfpkmikhddoaaMem
namespace Go.Proofs.Ytgjfpkmikhddoaa
open Go Go.RowKit
set_option maxRecDepth 1000000
set_option linter.all false
theorem fr_0_0_2 : FrP 0 0 2 := by unfold FrP; kernel_rfl
theorem fr_0_1_2 : FrP 0 1 2 := by unfold FrP; kernel_rfl
theorem fr_0_2_2 : FrP 0 2 2 := by unfold FrP; kernel_rfl
theorem fr_0_3_2 : FrP 0 3 2 := by unfold FrP; kernel_rfl
theorem fr_0_4_2 : FrP 0 4 2 := by unfold FrP; kernel_rfl
theorem fr_1_0_2 : FrP 1 0 2 := by unfold FrP; kernel_rfl
theorem fr_1_1_2 : FrP 1 1 2 := by unfold FrP; kernel_rfl
theorem fr_1_2_2 : FrP 1 2 2 := by unfold FrP; kernel_rfl
theorem fr_1_3_2 : FrP 1 3 2 := by unfold FrP; kernel_rfl
theorem fr_1_4_2 : FrP 1 4 2 := by unfold FrP; kernel_rfl
theorem fr_2_0_2 : FrP 2 0 2 := by unfold FrP; kernel_rfl
theorem fr_2_1_2 : FrP 2 1 2 := by unfold FrP; kernel_rfl
theorem fr_2_2_2 : FrP 2 2 2 := by unfold FrP; kernel_rfl
theorem fr_2_3_2 : FrP 2 3 2 := by unfold FrP; kernel_rfl
theorem fr_2_4_2 : FrP 2 4 2 := by unfold FrP; kernel_rfl
theorem fr_3_0_2 : FrP 3 0 2 := by unfold FrP; kernel_rfl
theorem fr_3_1_2 : FrP 3 1 2 := by unfold FrP; kernel_rfl
theorem fr_3_2_2 : FrP 3 2 2 := by unfold FrP; kernel_rfl
theorem fr_3_3_2 : FrP 3 3 2 := by unfold FrP; kernel_rfl
theorem fr_3_4_2 : FrP 3 4 2 := by unfold FrP; kernel_rfl
end Go.Proofs.Ytgjfpkmikhddoaa
