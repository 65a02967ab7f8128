/-
  The closed laws TickRuns, GetRuns and ScanRuns, reckoned by a verified evaluator; no condition.
-/
import Derived.Test.YtkdnegaecdpccaaBase
import Derived.Test.YtkdnegaecdpccaaEvU
namespace Go.Proofs.Ytkdnegaecdpccaa
open Go.RowKit Go.WideShapes Go.ChangeShapes
set_option linter.all false
set_option maxRecDepth 1000000
theorem closed_any (f n : Nat) (w : World) (h : letI : Ev.Tok := ⟨fun _ => 0, fun _ => ByteArray.empty⟩; Ev.isTrue (@Ev.runF Ev.noSym Try.prog Ev.noOrc n (.fn f [] Ev.st0)) = true) : Calls Try.prog f #[] w fun e w' => e = .returned (.bool true) ∧ Below w.heap.size w w' := by
  letI : Ev.Tok := ⟨fun _ => 0, fun _ => ByteArray.empty⟩
  letI : Ev.Sym := Ev.noSym
  exact @Ev.calls_true_args _ Ev.noSym Try.prog _ (Ev.noSym_ok _) Ev.noOrc_ok mixed n f [] (by simp) (Ev.fast h) w
theorem tickRuns_any (w : World) : Calls Try.prog 7 #[] w fun e w' => e = .returned (.bool true) ∧ Below w.heap.size w w' := closed_any 7 400000 w (by kernel_rfl)
theorem getRuns_any (w : World) : Calls Try.prog 11 #[] w fun e w' => e = .returned (.bool true) ∧ Below w.heap.size w w' := closed_any 11 400000 w (by kernel_rfl)
theorem scanRuns_any (w : World) : Calls Try.prog 13 #[] w fun e w' => e = .returned (.bool true) ∧ Below w.heap.size w w' := closed_any 13 400000 w (by kernel_rfl)
end Go.Proofs.Ytkdnegaecdpccaa
