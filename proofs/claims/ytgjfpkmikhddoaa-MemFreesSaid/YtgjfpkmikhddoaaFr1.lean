/-
  The law MemFrees at each number of slots and of ticks, at class 1: reckoned by a verified evaluator; no condition.
-/
import Derived.Test.YtgjfpkmikhddoaaMem
namespace Go.Proofs.Ytgjfpkmikhddoaa
open Go Go.RowKit
set_option maxRecDepth 1000000
set_option linter.all false
theorem fr_0_0_1 : FrP 0 0 1 := by unfold FrP; kernel_rfl
theorem fr_0_1_1 : FrP 0 1 1 := by unfold FrP; kernel_rfl
theorem fr_0_2_1 : FrP 0 2 1 := by unfold FrP; kernel_rfl
theorem fr_0_3_1 : FrP 0 3 1 := by unfold FrP; kernel_rfl
theorem fr_0_4_1 : FrP 0 4 1 := by unfold FrP; kernel_rfl
theorem fr_1_0_1 : FrP 1 0 1 := by unfold FrP; kernel_rfl
theorem fr_1_1_1 : FrP 1 1 1 := by unfold FrP; kernel_rfl
theorem fr_1_2_1 : FrP 1 2 1 := by unfold FrP; kernel_rfl
theorem fr_1_3_1 : FrP 1 3 1 := by unfold FrP; kernel_rfl
theorem fr_1_4_1 : FrP 1 4 1 := by unfold FrP; kernel_rfl
theorem fr_2_0_1 : FrP 2 0 1 := by unfold FrP; kernel_rfl
theorem fr_2_1_1 : FrP 2 1 1 := by unfold FrP; kernel_rfl
theorem fr_2_2_1 : FrP 2 2 1 := by unfold FrP; kernel_rfl
theorem fr_2_3_1 : FrP 2 3 1 := by unfold FrP; kernel_rfl
theorem fr_2_4_1 : FrP 2 4 1 := by unfold FrP; kernel_rfl
theorem fr_3_0_1 : FrP 3 0 1 := by unfold FrP; kernel_rfl
theorem fr_3_1_1 : FrP 3 1 1 := by unfold FrP; kernel_rfl
theorem fr_3_2_1 : FrP 3 2 1 := by unfold FrP; kernel_rfl
theorem fr_3_3_1 : FrP 3 3 1 := by unfold FrP; kernel_rfl
theorem fr_3_4_1 : FrP 3 4 1 := by unfold FrP; kernel_rfl
end Go.Proofs.Ytgjfpkmikhddoaa
