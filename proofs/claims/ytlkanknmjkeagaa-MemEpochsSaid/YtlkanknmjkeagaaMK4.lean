/-
  A new memory of 4 clients, reckoned by a verified evaluator; no condition.
-/
import Derived.Test.YtlkanknmjkeagaaMN
namespace Go.Proofs.Ytlkanknmjkeagaa
open Go Go.RowKit
set_option maxRecDepth 1000000
set_option linter.all false
theorem mk_4 : MkP 4 := by unfold MkP; kernel_rfl
end Go.Proofs.Ytlkanknmjkeagaa
