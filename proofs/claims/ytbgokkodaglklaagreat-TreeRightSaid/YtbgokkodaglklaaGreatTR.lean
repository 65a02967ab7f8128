/-
  The closed law TreeRuns: reckoned by a verified evaluator; no condition.
-/
import Derived.Test.YtbgokkodaglklaaGreatEvS
import Derived.Test.YtbgokkodaglklaaGreatIns
import Derived.Test.YtbgokkodaglklaaGreatBase
namespace Go.Proofs.YtbgokkodaglklaaGreat
open Go Go.RowKit
set_option maxRecDepth 1000000
set_option linter.all false
noncomputable def orc0 : Ev.Orc := Ev.orcOf [] insL delL
theorem orc0_ok [Ev.Tok] : letI : Ev.Sym := Ev.noSym; Ev.OrcOk Tryz.prog orc0 := by
  letI : Ev.Sym := Ev.noSym
  exact Ev.orcOf_ok (by simp) insL_ok delL_ok
theorem treeRuns_ev : Ev.isTrue (@Ev.runF Ev.noSym Tryz.prog orc0 400000 (.fn 10 [] Ev.st0)) = true := by kernel_rfl
theorem treeRuns_any (w : World) : Calls Tryz.prog 10 #[] w fun e w' => e = .returned (.bool true) ∧ Below w.heap.size w w' := by
  letI : Ev.Tok := ⟨fun _ => 0, fun _ => ByteArray.empty⟩
  letI : Ev.Sym := Ev.noSym
  exact @Ev.calls_true_args _ Ev.noSym Tryz.prog _ (Ev.noSym_ok _) orc0_ok mixed 400000 10 [] (by simp) (Ev.fast treeRuns_ev) w
end Go.Proofs.YtbgokkodaglklaaGreat
