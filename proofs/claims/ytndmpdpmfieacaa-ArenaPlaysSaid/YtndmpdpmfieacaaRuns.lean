/-
  The closed laws ArenaRuns and MemRuns, reckoned by a verified evaluator; no condition.
-/
import Derived.Test.YtndmpdpmfieacaaBase
import Derived.Test.YtndmpdpmfieacaaEvU
namespace Go.Proofs.Ytndmpdpmfieacaa
open Go.RowKit Go.WideShapes Go.ChangeShapes
set_option linter.all false
set_option maxRecDepth 1000000
theorem closed_any (f n : Nat) (w : World) (h : letI : Ev.Tok := ⟨fun _ => 0, fun _ => ByteArray.empty⟩; Ev.isTrue (@Ev.runF Ev.noSym Try.prog Ev.noOrc n (.fn f [] Ev.st0)) = true) : Calls Try.prog f #[] w fun e w' => e = .returned (.bool true) ∧ Below w.heap.size w w' := by
  letI : Ev.Tok := ⟨fun _ => 0, fun _ => ByteArray.empty⟩
  letI : Ev.Sym := Ev.noSym
  exact @Ev.calls_true_args _ Ev.noSym Try.prog _ (Ev.noSym_ok _) Ev.noOrc_ok mixed n f [] (by simp) (Ev.fast h) w
theorem arenaRuns_any (w : World) : Calls Try.prog 20 #[] w fun e w' => e = .returned (.bool true) ∧ Below w.heap.size w w' := closed_any 20 400000 w (by kernel_rfl)
theorem memRuns_any (w : World) : Calls Try.prog 38 #[] w fun e w' => e = .returned (.bool true) ∧ Below w.heap.size w w' := closed_any 38 400000 w (by kernel_rfl)
end Go.Proofs.Ytndmpdpmfieacaa
