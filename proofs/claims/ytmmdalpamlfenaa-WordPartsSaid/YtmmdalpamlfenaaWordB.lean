/-
  The walk of the law WordParts; no condition but that integers fit their kinds.
-/
import Derived.Test.YtmmdalpamlfenaaWord
namespace Go.Proofs.Ytmmdalpamlfenaa
open Go.ChangeShapes Go.WideShapes Go.ChangeAt Go.RowKit
set_option linter.unusedVariables false
set_option linter.unusedSimpArgs false
set_option maxHeartbeats 1000000
theorem good_parts {r : Int} (h : goodP r) : 0 ≤ slotV r ∧ slotV r < 1024 ∧ 1 ≤ genV r ∧ genV r ≤ 1073741824 := by
  obtain ⟨h0, h1⟩ := h
  rw [refV_eq] at h1
  split at h1
  · rename_i h2
    exact ⟨h2.1.1, h2.1.2, h2.2.1, h2.2.2⟩
  · exact absurd h1.symm h0
theorem ref_back (r : Int) (hg : goodP r) (w : World) :
    Calls Try.prog 9 #[.int .i64 (slotV r), .int .i64 (genV r), .bool (leafV r)] w fun e w' => e = .returned (.int .i64 r) ∧ w = w' := by
  have := ref_c (slotV r) (genV r) (leafV r) (wf_bits _ _ _ _) (wf_bits _ _ _ _) w
  rw [hg.2] at this
  exact this
theorem wparts_good (r : Int) (hg : goodP r) (w0 : (Lit.int .i64 r).wf = true) (w : World) :
    Calls Try.prog 7 #[.int .i64 r] w fun e w' => e = .returned (.bool true) ∧ Below w.heap.size w w' := by
  obtain ⟨h0, h1, h2, h3⟩ := good_parts hg
  go_enter Try.func7, Try.ntmps7
  go_wp2_with (first
    | (go_at_call 10; refine (parts_good _ hg w0 _).mono ?_; rintro e w' ⟨rfl, rfl⟩)
    | (go_at_call 9; refine (ref_back _ hg _).mono ?_; rintro e w' ⟨rfl, rfl⟩)
    | (go_at_call 3; refine (runs_c _).mono ?_; rintro e w' ⟨rfl, hb⟩))
  all_goals first
    | (go_ret; exact ⟨rfl, hb⟩)
    | omega
theorem wparts_bad (r : Int) (hg : ¬ goodP r) (w0 : (Lit.int .i64 r).wf = true) (w : World) :
    Calls Try.prog 7 #[.int .i64 r] w fun e w' => e = .returned (.bool true) ∧ Below w.heap.size w w' := by
  go_enter Try.func7, Try.ntmps7
  go_wp2_with (first
    | (go_at_call 10; refine (parts_bad _ hg w0 _).mono ?_; rintro e w' ⟨rfl, rfl⟩)
    | (go_at_call 3; refine (runs_c _).mono ?_; rintro e w' ⟨rfl, hb⟩))
  all_goals go_ret
  all_goals exact ⟨rfl, hb⟩
theorem wparts (r : Int) (w0 : (Lit.int .i64 r).wf = true) (w : World) :
    Calls Try.prog 7 #[.int .i64 r] w fun e w' => e = .returned (.bool true) ∧ Below w.heap.size w w' := by
  by_cases hg : goodP r
  · exact wparts_good r hg w0 w
  · exact wparts_bad r hg w0 w
end Go.Proofs.Ytmmdalpamlfenaa
