/-
  The law QueryOrder at any three truth values; no condition.
-/
import Derived.Test.YtnhdlbigkpkafaaQO0
import Derived.Test.YtnhdlbigkpkafaaQO1
import Derived.Test.YtnhdlbigkpkafaaQO2
import Derived.Test.YtnhdlbigkpkafaaQO3
import Derived.Test.YtnhdlbigkpkafaaQO4
import Derived.Test.YtnhdlbigkpkafaaQO5
import Derived.Test.YtnhdlbigkpkafaaQO6
import Derived.Test.YtnhdlbigkpkafaaQO7
import Derived.Test.YtnhdlbigkpkafaaBase
namespace Go.Proofs.Ytnhdlbigkpkafaa
open Go.RowKit Go.WideShapes Go.ChangeShapes
set_option linter.all false
theorem order_of {a b c : Bool} (h : QoP a b c) (w : World) : Calls Try.prog 3 #[.bool a, .bool b, .bool c] w fun e w' => e = .returned (.bool true) ∧ Below w.heap.size w w' := by
  letI : Ev.Tok := ⟨fun _ => 0, fun _ => ByteArray.empty⟩
  letI : Ev.Sym := Ev.noSym
  exact @Ev.calls_true_args _ Ev.noSym Try.prog _ (Ev.noSym_ok _) Ev.noOrc_ok mixed 400000 3 [.bool a, .bool b, .bool c] (by simp [Ev.Wf]) (Ev.fast h) w
theorem order_any (a b c : Bool) (w : World) : Calls Try.prog 3 #[.bool a, .bool b, .bool c] w fun e w' => e = .returned (.bool true) ∧ Below w.heap.size w w' := by
  cases a <;> cases b <;> cases c
  · exact order_of qo_7 w
  · exact order_of qo_6 w
  · exact order_of qo_5 w
  · exact order_of qo_4 w
  · exact order_of qo_3 w
  · exact order_of qo_2 w
  · exact order_of qo_1 w
  · exact order_of qo_0 w
end Go.Proofs.Ytnhdlbigkpkafaa
