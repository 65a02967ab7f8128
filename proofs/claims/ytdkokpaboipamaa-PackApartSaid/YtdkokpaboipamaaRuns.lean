/-
  The closed laws PackRuns and PoolRuns, reckoned by a verified evaluator; no condition.
-/
import Derived.Test.YtdkokpaboipamaaBase
import Derived.Test.YtdkokpaboipamaaEvU
namespace Go.Proofs.Ytdkokpaboipamaa
open Go.RowKit Go.WideShapes Go.ChangeShapes
set_option linter.all false
set_option maxRecDepth 1000000
theorem closed_any (f n : Nat) (w : World) (h : letI : Ev.Tok := ⟨fun _ => 0, fun _ => ByteArray.empty⟩; Ev.isTrue (@Ev.runF Ev.noSym Try.prog Ev.noOrc n (.fn f [] Ev.st0)) = true) : Calls Try.prog f #[] w fun e w' => e = .returned (.bool true) ∧ Below w.heap.size w w' := by
  letI : Ev.Tok := ⟨fun _ => 0, fun _ => ByteArray.empty⟩
  letI : Ev.Sym := Ev.noSym
  exact @Ev.calls_true_args _ Ev.noSym Try.prog _ (Ev.noSym_ok _) Ev.noOrc_ok mixed n f [] (by simp) (Ev.fast h) w
theorem packRuns_any (w : World) : Calls Try.prog 17 #[] w fun e w' => e = .returned (.bool true) ∧ Below w.heap.size w w' := closed_any 17 400000 w (by kernel_rfl)
theorem poolRuns_any (w : World) : Calls Try.prog 20 #[] w fun e w' => e = .returned (.bool true) ∧ Below w.heap.size w w' := closed_any 20 400000 w (by kernel_rfl)
end Go.Proofs.Ytdkokpaboipamaa
