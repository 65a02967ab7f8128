/-
  The law NodeRuns, and NodeBands at whatever number: reckoned by a verified evaluator, case by case; no condition.
-/
import Derived.Test.YtpndjimajojnnaaBase
import Derived.Test.YtpndjimajojnnaaIns
namespace Go.Proofs.Ytpndjimajojnnaa
open Go.RowKit
set_option linter.all false
set_option maxRecDepth 1000000
theorem nodeRuns_any (w : World) : Calls Try.prog 3 #[] w fun e w' => e = .returned (.bool true) ∧ Below w.heap.size w w' := by
  letI : Ev.Tok := ⟨fun _ => 0, fun _ => ByteArray.empty⟩
  letI : Ev.Sym := Ev.noSym
  have h : Ev.isTrue (@Ev.run Ev.noSym Try.prog (Ev.orcOf [] insL delL) 40000 (.fn 3 [] Ev.st0)) = true := by kernel_rfl
  exact @Ev.calls_true_args _ Ev.noSym Try.prog _ (Ev.noSym_ok _) (Ev.orcOf_ok (by simp) insL_ok delL_ok) mixed 40000 3 [] (by simp) h w
theorem bands_all : ((List.range 3).all fun k => Ev.isTrue (@Ev.run Ev.noSym Try.prog (Ev.orcOf [wRow 0 2 k, tRow 3] [] []) 40000 (.fn 4 [tk 0] Ev.st0))) = true := by kernel_rfl
theorem bands_any (n : Int) (w : World) : Calls Try.prog 4 #[.int .i64 n] w fun e w' => e = .returned (.bool true) ∧ Below w.heap.size w w' := by
  letI : Ev.Tok := ⟨fun _ => n, fun _ => ByteArray.empty⟩
  letI : Ev.Sym := Ev.noSym
  obtain ⟨k, hk, hlt⟩ := withinV_nat n 3 (by omega)
  have h := List.all_eq_true.1 bands_all k (List.mem_range.2 hlt)
  have hrows : ∀ r ∈ [wRow 0 2 k, tRow 3], r.ok Try.prog := by
    intro r hr
    simp only [List.mem_cons, List.not_mem_nil, or_false] at hr
    rcases hr with rfl | rfl
    · exact wRow_ok (by omega) hk
    · exact tRow_ok nodeRuns_any
  exact @Ev.calls_true_args _ Ev.noSym Try.prog _ (Ev.noSym_ok _) (Ev.orcOf_ok hrows (by simp) (by simp)) mixed 40000 4 [tk 0] (by simp [tk, Ev.Wf]) h w
end Go.Proofs.Ytpndjimajojnnaa
