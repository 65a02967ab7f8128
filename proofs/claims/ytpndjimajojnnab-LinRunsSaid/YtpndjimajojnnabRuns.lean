/-
  The closed laws LinRuns and QueryRuns return true in whatever world they are called: reckoned by a verified evaluator; no condition.
-/
import Derived.Test.YtpndjimajojnnabBase
namespace Go.Proofs.Ytpndjimajojnnab
open Go.RowKit
set_option linter.all false
set_option maxRecDepth 1000000
theorem linRuns_any (w : World) : Calls Try.prog 4 #[] w fun e w' => e = .returned (.bool true) ∧ Below w.heap.size w w' := by
  letI : Ev.Tok := ⟨fun _ => 0, fun _ => ByteArray.empty⟩
  letI : Ev.Sym := Ev.noSym
  have h : Ev.isTrue (@Ev.run Ev.noSym Try.prog Ev.noOrc 40000 (.fn 4 [] Ev.st0)) = true := by kernel_rfl
  exact @Ev.calls_true_args _ Ev.noSym Try.prog _ (Ev.noSym_ok _) Ev.noOrc_ok mixed 40000 4 [] (by simp) h w
theorem queryRuns_any (w : World) : Calls Try.prog 5 #[] w fun e w' => e = .returned (.bool true) ∧ Below w.heap.size w w' := by
  letI : Ev.Tok := ⟨fun _ => 0, fun _ => ByteArray.empty⟩
  letI : Ev.Sym := Ev.noSym
  have h : Ev.isTrue (@Ev.run Ev.noSym Try.prog Ev.noOrc 40000 (.fn 5 [] Ev.st0)) = true := by kernel_rfl
  exact @Ev.calls_true_args _ Ev.noSym Try.prog _ (Ev.noSym_ok _) Ev.noOrc_ok mixed 40000 5 [] (by simp) h w
end Go.Proofs.Ytpndjimajojnnab
