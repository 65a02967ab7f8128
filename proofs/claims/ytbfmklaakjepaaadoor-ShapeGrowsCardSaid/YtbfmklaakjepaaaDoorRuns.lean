/-
  The closed law ShapeRuns, reckoned by a verified evaluator; no condition.
-/
import Derived.Test.YtbfmklaakjepaaaDoorBase
import Derived.Test.YtbfmklaakjepaaaDoorEvU
namespace Go.Proofs.YtbfmklaakjepaaaDoor
open Go.RowKit
set_option linter.all false
set_option maxRecDepth 1000000
theorem closed_any (f n : Nat) (w : World) (h : letI : Ev.Tok := ⟨fun _ => 0, fun _ => ByteArray.empty⟩; Ev.isTrue (@Ev.runF Ev.noSym Tryd.prog Ev.noOrc n (.fn f [] Ev.st0)) = true) : Calls Tryd.prog f #[] w fun e w' => e = .returned (.bool true) ∧ Below w.heap.size w w' := by
  letI : Ev.Tok := ⟨fun _ => 0, fun _ => ByteArray.empty⟩
  letI : Ev.Sym := Ev.noSym
  exact @Ev.calls_true_args _ Ev.noSym Tryd.prog _ (Ev.noSym_ok _) Ev.noOrc_ok mixed n f [] (by simp) (Ev.fast h) w
theorem runs_any (w : World) : Calls Tryd.prog 3 #[] w fun e w' => e = .returned (.bool true) ∧ Below w.heap.size w w' := closed_any 3 400000 w (by kernel_rfl)
end Go.Proofs.YtbfmklaakjepaaaDoor
