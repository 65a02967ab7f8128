/-
  Less and Swap of the pool's numbers, at any row; conditions: the places lie in it.
-/
import Derived.Test.YtndmpdpmfieacaaPl2
import Derived.Laws.OwnMore
import Derived.Deep.QuietTactic
import Derived.BigQuiet
import Derived.StillTailTactics
namespace Go.Proofs.Ytndmpdpmfieacaa
open Go.RowKit Go.WideShapes Go.ChangeShapes
set_option linter.all false
/-- The row at g holds xs, and may be written. -/
structure Row (g : Nat) (xs : List Int) (w : World) : Prop where
  cell : ∀ m, m < xs.length → w.cell? ⟨g, m, none⟩ = some (.int .i64 (xs.getD m 0))
  free : ∀ m, m < xs.length → w.frozen? ⟨g, m, none⟩ = false
set_option maxRecDepth 100000 in
set_option maxHeartbeats 400000 in
theorem less_any (g n c : Nat) (xs : List Int) (i j : Nat) (w : World) (hn : xs.length = n) (hi : i < n) (hj : j < n) (h : Row g xs w) :
    Calls Try.prog 126 #[.slice (some ⟨g, 0, none⟩) n c, .int .i64 i, .int .i64 j] w fun e w' => e = .returned (.bool (decide (xs.getD i 0 < xs.getD j 0))) ∧ w' = w.drew := by
  have ci := h.cell i (by omega)
  have cj := h.cell j (by omega)
  have hi0 : (0 : Int) ≤ (i : Int) := by omega
  have hi1 : (i : Int) < (n : Int) := by omega
  have hj0 : (0 : Int) ≤ (j : Int) := by omega
  have hj1 : (j : Int) < (n : Int) := by omega
  go_enter Try.func126, Try.ntmps126
  go_wp2
  go_region
  all_goals
    go_wp2
    go_ret
    exact ⟨by simp [hi, hj, hn], rfl⟩
set_option maxRecDepth 100000 in
set_option maxHeartbeats 400000 in
theorem swap_any (g n c : Nat) (xs : List Int) (i j : Nat) (w : World) (hn : xs.length = n) (hi : i < n) (hj : j < n) (h : Row g xs w) :
    Calls Try.prog 127 #[.slice (some ⟨g, 0, none⟩) n c, .int .i64 i, .int .i64 j] w fun e w' => e = .returned (.tuple #[]) ∧ w' = (w.drew.setCell ⟨g, i, none⟩ (.int .i64 (xs.getD j 0))).setCell ⟨g, j, none⟩ (.int .i64 (xs.getD i 0)) := by
  have ci := h.cell i (by omega)
  have cj := h.cell j (by omega)
  have fi := h.free i (by omega)
  have fj := h.free j (by omega)
  have hi0 : (0 : Int) ≤ (i : Int) := by omega
  have hi1 : (i : Int) < (n : Int) := by omega
  have hj0 : (0 : Int) ≤ (j : Int) := by omega
  have hj1 : (j : Int) < (n : Int) := by omega
  have hix : i < xs.length := by omega
  have hjx : j < xs.length := by omega
  obtain ⟨v, cs⟩ : ∃ v, (w.setCell ⟨g, i, none⟩ (.int .i64 xs[j])).cell? ⟨g, j, none⟩ = some v := by
    by_cases e : i = j
    · subst e; exact ⟨_, World.cell?_setCell_same _ _ _ ci⟩
    · exact ⟨_, (World.cell?_setCell_other _ _ _ _ (by simp [e])).trans cj⟩
  go_enter Try.func127, Try.ntmps127
  go_wp2
  go_region
  all_goals
    go_wp2
    go_end0
    exact ⟨rfl, by simp [hix, hjx]; rfl⟩
end Go.Proofs.Ytndmpdpmfieacaa
