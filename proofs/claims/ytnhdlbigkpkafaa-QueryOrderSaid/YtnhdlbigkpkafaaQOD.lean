/-
  What is reckoned for QueryOrder; no condition.
-/
import Derived.Test.YtnhdlbigkpkafaaEvU
import Derived.Test.YtnhdlbigkpkafaaChecked
namespace Go.Proofs.Ytnhdlbigkpkafaa
open Go Go.RowKit
set_option linter.all false
def QoP (a b c : Bool) : Prop := Ev.isTrue (letI : Ev.Tok := ⟨fun _ => 0, fun _ => ByteArray.empty⟩; @Ev.runF Ev.noSym Try.prog Ev.noOrc 400000 (.fn 3 [.bool a, .bool b, .bool c] Ev.st0)) = true
end Go.Proofs.Ytnhdlbigkpkafaa
