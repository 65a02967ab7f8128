/-
  QueryOrder at one choice of three: reckoned by a verified evaluator; no condition.
-/
import Derived.Test.YtnhdlbigkpkafaaQOD
namespace Go.Proofs.Ytnhdlbigkpkafaa
open Go Go.RowKit
set_option maxRecDepth 1000000
set_option linter.all false
theorem qo_5 : QoP false true false := by unfold QoP; kernel_rfl
end Go.Proofs.Ytnhdlbigkpkafaa
