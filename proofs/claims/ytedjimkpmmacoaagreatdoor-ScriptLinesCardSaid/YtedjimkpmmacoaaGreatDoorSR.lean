/-
  The closed law ScriptRuns: reckoned by a verified evaluator; no condition.
-/
import Derived.Test.YtedjimkpmmacoaaGreatDoorCA
import Derived.Test.YtedjimkpmmacoaaGreatDoorSA
namespace Go.Proofs.YtedjimkpmmacoaaGreatDoor
open Go Go.RowKit
set_option maxRecDepth 1000000
set_option linter.all false
noncomputable def orc_scriptRuns : Ev.Orc := Ev.orcS orc0 [dec_m, dec0_m, s0_m]
theorem orc_scriptRuns_ok [Ev.Tok] : letI : Ev.Sym := Ev.noSym; Ev.OrcOk Tryz.prog orc_scriptRuns := by
  letI : Ev.Sym := Ev.noSym
  refine Ev.orcS_ok orc0_ok _ ?_
  intro M hM
  simp only [List.mem_cons, List.not_mem_nil, or_false] at hM
  rcases hM with rfl | rfl | rfl
  · exact dec_sok
  · exact dec0_sok
  · exact s0_sok
theorem scriptRuns_ev : Ev.isTrue (@Ev.runF Ev.noSym Tryz.prog orc_scriptRuns 400000 (.fn 3 [] Ev.st0)) = true := by kernel_rfl
theorem scriptRuns_any (w : World) : Calls Tryz.prog 3 #[] w fun e w' => e = .returned (.bool true) ∧ Below w.heap.size w w' := by
  letI : Ev.Tok := ⟨fun _ => 0, fun _ => ByteArray.empty⟩
  letI : Ev.Sym := Ev.noSym
  exact @Ev.calls_true_args _ Ev.noSym Tryz.prog _ (Ev.noSym_ok _) orc_scriptRuns_ok mixed 400000 3 [] (by simp) (Ev.fast scriptRuns_ev) w
end Go.Proofs.YtedjimkpmmacoaaGreatDoor
