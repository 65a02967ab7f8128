/-
  The closed law DropRuns: reckoned by a verified evaluator; no condition.
-/
import Derived.Test.YtjhkgjcgaeljkaaGreatME
import Derived.Test.YtjhkgjcgaeljkaaGreatMR1
import Derived.Test.YtjhkgjcgaeljkaaGreatMR2
namespace Go.Proofs.YtjhkgjcgaeljkaaGreat
open Go Go.RowKit
set_option maxRecDepth 1000000
set_option linter.all false
noncomputable def orc_dropRuns : Ev.Orc := Ev.orcS orc0 [b10_m, r1_m, r2_m]
theorem orc_dropRuns_ok [Ev.Tok] : letI : Ev.Sym := Ev.noSym; Ev.OrcOk Tryz.prog orc_dropRuns := by
  letI : Ev.Sym := Ev.noSym
  refine Ev.orcS_ok orc0_ok _ ?_
  intro M hM
  simp only [List.mem_cons, List.not_mem_nil, or_false] at hM
  rcases hM with rfl | rfl | rfl
  · exact b10_sok
  · exact r1_sok
  · exact r2_sok
theorem dropRuns_ev : Ev.isTrue (@Ev.runF Ev.noSym Tryz.prog orc_dropRuns 400000 (.fn 4 [] Ev.st0)) = true := by kernel_rfl
theorem dropRuns_any (w : World) : Calls Tryz.prog 4 #[] w fun e w' => e = .returned (.bool true) ∧ Below w.heap.size w w' := by
  letI : Ev.Tok := ⟨fun _ => 0, fun _ => ByteArray.empty⟩
  letI : Ev.Sym := Ev.noSym
  exact @Ev.calls_true_args _ Ev.noSym Tryz.prog _ (Ev.noSym_ok _) orc_dropRuns_ok mixed 400000 4 [] (by simp) (Ev.fast dropRuns_ev) w
end Go.Proofs.YtjhkgjcgaeljkaaGreat
