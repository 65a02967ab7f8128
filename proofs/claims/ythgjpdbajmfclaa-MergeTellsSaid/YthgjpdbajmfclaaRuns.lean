/-
  The closed law MergeRuns, reckoned by a verified evaluator; no condition.
-/
import Derived.Test.YthgjpdbajmfclaaBase
import Derived.Test.YthgjpdbajmfclaaEvU
namespace Go.Proofs.Ythgjpdbajmfclaa
open Go.RowKit Go.WideShapes Go.ChangeShapes
set_option linter.all false
set_option maxRecDepth 1000000 in
theorem runs_any (w : World) : Calls Try.prog 12 #[] w fun e w' => e = .returned (.bool true) ∧ Below w.heap.size w w' := by
  letI : Ev.Tok := ⟨fun _ => 0, fun _ => ByteArray.empty⟩
  letI : Ev.Sym := Ev.noSym
  have h : Ev.isTrue (@Ev.runF Ev.noSym Try.prog Ev.noOrc 40000 (.fn 12 [] Ev.st0)) = true := by kernel_rfl
  exact @Ev.calls_true_args _ Ev.noSym Try.prog _ (Ev.noSym_ok _) Ev.noOrc_ok mixed 40000 12 [] (by simp) (Ev.fast h) w
end Go.Proofs.Ythgjpdbajmfclaa
