/-
  The law MemFrees at whatever numbers: reckoned by a verified evaluator, case by case; no condition.
-/
import Derived.Test.YtgjfpkmikhddoaaFr0
import Derived.Test.YtgjfpkmikhddoaaFr1
import Derived.Test.YtgjfpkmikhddoaaFr2
import Derived.Test.YtgjfpkmikhddoaaFr3
namespace Go.Proofs.Ytgjfpkmikhddoaa
open Go Go.RowKit
set_option maxRecDepth 1000000
set_option linter.all false
theorem fr_all : ∀ a b c : Nat, a < 4 → b < 5 → c < 4 → FrP a b c
  | 0, 0, 0, _, _, _ => fr_0_0_0
  | 0, 0, 1, _, _, _ => fr_0_0_1
  | 0, 0, 2, _, _, _ => fr_0_0_2
  | 0, 0, 3, _, _, _ => fr_0_0_3
  | 0, 1, 0, _, _, _ => fr_0_1_0
  | 0, 1, 1, _, _, _ => fr_0_1_1
  | 0, 1, 2, _, _, _ => fr_0_1_2
  | 0, 1, 3, _, _, _ => fr_0_1_3
  | 0, 2, 0, _, _, _ => fr_0_2_0
  | 0, 2, 1, _, _, _ => fr_0_2_1
  | 0, 2, 2, _, _, _ => fr_0_2_2
  | 0, 2, 3, _, _, _ => fr_0_2_3
  | 0, 3, 0, _, _, _ => fr_0_3_0
  | 0, 3, 1, _, _, _ => fr_0_3_1
  | 0, 3, 2, _, _, _ => fr_0_3_2
  | 0, 3, 3, _, _, _ => fr_0_3_3
  | 0, 4, 0, _, _, _ => fr_0_4_0
  | 0, 4, 1, _, _, _ => fr_0_4_1
  | 0, 4, 2, _, _, _ => fr_0_4_2
  | 0, 4, 3, _, _, _ => fr_0_4_3
  | 1, 0, 0, _, _, _ => fr_1_0_0
  | 1, 0, 1, _, _, _ => fr_1_0_1
  | 1, 0, 2, _, _, _ => fr_1_0_2
  | 1, 0, 3, _, _, _ => fr_1_0_3
  | 1, 1, 0, _, _, _ => fr_1_1_0
  | 1, 1, 1, _, _, _ => fr_1_1_1
  | 1, 1, 2, _, _, _ => fr_1_1_2
  | 1, 1, 3, _, _, _ => fr_1_1_3
  | 1, 2, 0, _, _, _ => fr_1_2_0
  | 1, 2, 1, _, _, _ => fr_1_2_1
  | 1, 2, 2, _, _, _ => fr_1_2_2
  | 1, 2, 3, _, _, _ => fr_1_2_3
  | 1, 3, 0, _, _, _ => fr_1_3_0
  | 1, 3, 1, _, _, _ => fr_1_3_1
  | 1, 3, 2, _, _, _ => fr_1_3_2
  | 1, 3, 3, _, _, _ => fr_1_3_3
  | 1, 4, 0, _, _, _ => fr_1_4_0
  | 1, 4, 1, _, _, _ => fr_1_4_1
  | 1, 4, 2, _, _, _ => fr_1_4_2
  | 1, 4, 3, _, _, _ => fr_1_4_3
  | 2, 0, 0, _, _, _ => fr_2_0_0
  | 2, 0, 1, _, _, _ => fr_2_0_1
  | 2, 0, 2, _, _, _ => fr_2_0_2
  | 2, 0, 3, _, _, _ => fr_2_0_3
  | 2, 1, 0, _, _, _ => fr_2_1_0
  | 2, 1, 1, _, _, _ => fr_2_1_1
  | 2, 1, 2, _, _, _ => fr_2_1_2
  | 2, 1, 3, _, _, _ => fr_2_1_3
  | 2, 2, 0, _, _, _ => fr_2_2_0
  | 2, 2, 1, _, _, _ => fr_2_2_1
  | 2, 2, 2, _, _, _ => fr_2_2_2
  | 2, 2, 3, _, _, _ => fr_2_2_3
  | 2, 3, 0, _, _, _ => fr_2_3_0
  | 2, 3, 1, _, _, _ => fr_2_3_1
  | 2, 3, 2, _, _, _ => fr_2_3_2
  | 2, 3, 3, _, _, _ => fr_2_3_3
  | 2, 4, 0, _, _, _ => fr_2_4_0
  | 2, 4, 1, _, _, _ => fr_2_4_1
  | 2, 4, 2, _, _, _ => fr_2_4_2
  | 2, 4, 3, _, _, _ => fr_2_4_3
  | 3, 0, 0, _, _, _ => fr_3_0_0
  | 3, 0, 1, _, _, _ => fr_3_0_1
  | 3, 0, 2, _, _, _ => fr_3_0_2
  | 3, 0, 3, _, _, _ => fr_3_0_3
  | 3, 1, 0, _, _, _ => fr_3_1_0
  | 3, 1, 1, _, _, _ => fr_3_1_1
  | 3, 1, 2, _, _, _ => fr_3_1_2
  | 3, 1, 3, _, _, _ => fr_3_1_3
  | 3, 2, 0, _, _, _ => fr_3_2_0
  | 3, 2, 1, _, _, _ => fr_3_2_1
  | 3, 2, 2, _, _, _ => fr_3_2_2
  | 3, 2, 3, _, _, _ => fr_3_2_3
  | 3, 3, 0, _, _, _ => fr_3_3_0
  | 3, 3, 1, _, _, _ => fr_3_3_1
  | 3, 3, 2, _, _, _ => fr_3_3_2
  | 3, 3, 3, _, _, _ => fr_3_3_3
  | 3, 4, 0, _, _, _ => fr_3_4_0
  | 3, 4, 1, _, _, _ => fr_3_4_1
  | 3, 4, 2, _, _, _ => fr_3_4_2
  | 3, 4, 3, _, _, _ => fr_3_4_3
  | a + 4, _, _, h, _, _ => absurd h (by omega)
  | _, b + 5, _, _, h, _ => absurd h (by omega)
  | _, _, c + 4, _, _, h => absurd h (by omega)
theorem frees_any (n0 n1 n2 : Int) (w : World) : Calls Try.prog 3 #[.int .i64 n0, .int .i64 n1, .int .i64 n2] w fun e w' => e = .returned (.bool true) ∧ Below w.heap.size w w' := by
  letI : Ev.Tok := ⟨fun i => match i with | 0 => n0 | 1 => n1 | _ => n2, fun _ => ByteArray.empty⟩
  letI : Ev.Sym := Ev.noSym
  obtain ⟨a, ha, hal⟩ := withinV_nat n0 4 (by omega)
  obtain ⟨b, hb, hbl⟩ := withinV_nat n1 5 (by omega)
  obtain ⟨c, hc, hcl⟩ := withinV_nat n2 4 (by omega)
  have hrows : ∀ r ∈ [wRow 0 3 a, wRow 1 4 b, wRow 2 3 c, tRow 11], r.ok Try.prog := by
    intro r hr
    simp only [List.mem_cons, List.not_mem_nil, or_false] at hr
    rcases hr with rfl | rfl | rfl | rfl
    · exact wRow_ok (by omega) ha
    · exact wRow_ok (by omega) hb
    · exact wRow_ok (by omega) hc
    · exact tRow_ok memRuns_any
  have ho : Ev.OrcOk Try.prog (frO a b c) := by
    refine Ev.orcMemo_ok (Ev.orcOf_ok hrows (by simp) (by simp)) ?_
    intro m hm
    simp only [memL, List.mem_cons, List.not_mem_nil, or_false] at hm
    subst hm
    exact d5_ok
  exact @Ev.calls_true_args _ Ev.noSym Try.prog _ (Ev.noSym_ok _) ho mixed 400000 3 [tk 0, tk 1, tk 2] (by simp [tk, Ev.Wf]) (Ev.fast (fr_all a b c hal hbl hcl)) w
end Go.Proofs.Ytgjfpkmikhddoaa
