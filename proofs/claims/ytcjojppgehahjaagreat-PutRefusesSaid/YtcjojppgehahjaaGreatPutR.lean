/-
  The closed law PutRuns: reckoned by a verified evaluator; no condition.
-/
import Derived.Test.YtcjojppgehahjaaGreatMemB
import Derived.Test.YtcjojppgehahjaaGreatMemC
namespace Go.Proofs.YtcjojppgehahjaaGreat
open Go Go.RowKit
set_option maxRecDepth 1000000
set_option linter.all false
noncomputable def memL : List Ev.Memo := [⟨35, [cfgV], d29_v, d29_l⟩, ⟨36, [cfgV], d30_v, d30_l⟩]
theorem memL_ok [Ev.Tok] : letI : Ev.Sym := Ev.noSym; Ev.OrcOk Tryz.prog (Ev.orcMemo memL orc0) := by
  letI : Ev.Sym := Ev.noSym
  refine Ev.orcMemo_ok orc0_ok ?_
  intro m hm
  simp only [memL, List.mem_cons, List.not_mem_nil, or_false] at hm
  rcases hm with rfl | rfl
  · exact d29_ok
  · exact d30_ok
theorem putRuns_ev : Ev.isTrue (@Ev.runF Ev.noSym Tryz.prog (Ev.orcMemo memL orc0) 400000 (.fn 7 [] Ev.st0)) = true := by kernel_rfl
theorem putRuns_any (w : World) : Calls Tryz.prog 7 #[] w fun e w' => e = .returned (.bool true) ∧ Below w.heap.size w w' := by
  letI : Ev.Tok := ⟨fun _ => 0, fun _ => ByteArray.empty⟩
  letI : Ev.Sym := Ev.noSym
  exact @Ev.calls_true_args _ Ev.noSym Tryz.prog _ (Ev.noSym_ok _) memL_ok mixed 400000 7 [] (by simp) (Ev.fast putRuns_ev) w
end Go.Proofs.YtcjojppgehahjaaGreat
