/-
  A new memory of 1 clients, reckoned by a verified evaluator; no condition.
-/
import Derived.Test.YtlkanknmjkeagaaMN
namespace Go.Proofs.Ytlkanknmjkeagaa
open Go Go.RowKit
set_option maxRecDepth 1000000
set_option linter.all false
theorem mk_1 : MkP 1 := by unfold MkP; kernel_rfl
end Go.Proofs.Ytlkanknmjkeagaa
