/-
  The closed law NodeRuns, reckoned by a verified evaluator; no condition.
-/
import Derived.Test.YtononinmjijhoaaBase
import Derived.Test.YtononinmjijhoaaIns
namespace Go.Proofs.Ytononinmjijhoaa
open Go.RowKit
set_option linter.all false
set_option maxRecDepth 1000000
theorem runs_any (w : World) : Calls Try.prog 13 #[] w fun e w' => e = .returned (.bool true) ∧ Below w.heap.size w w' := by
  letI : Ev.Tok := ⟨fun _ => 0, fun _ => ByteArray.empty⟩
  letI : Ev.Sym := Ev.noSym
  have h : Ev.isTrue (@Ev.run Ev.noSym Try.prog (Ev.orcOf [] insL delL) 40000 (.fn 13 [] Ev.st0)) = true := by kernel_rfl
  exact @Ev.calls_true_args _ Ev.noSym Try.prog _ (Ev.noSym_ok _) (Ev.orcOf_ok (by simp) insL_ok delL_ok) mixed 40000 13 [] (by simp) h w
end Go.Proofs.Ytononinmjijhoaa
