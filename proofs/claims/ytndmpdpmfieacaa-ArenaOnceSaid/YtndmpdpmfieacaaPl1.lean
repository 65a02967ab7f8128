/-
  The pool's numbers: what Push does to an empty heap.
-/
import Derived.Test.YtndmpdpmfieacaaChecked
import Derived.WalkKit
import Derived.OpenShut
import Derived.Below
import Derived.ChangeSame
import Derived.WalkLawsBesides
import Derived.BigFrame
import Derived.BigRegion
import Derived.OwnWalk
import Derived.Laws.OwnMore
import Derived.Laws.Small
import Derived.Laws.Cover1
import Derived.Laws.Slices
import Derived.IntWalk
import Derived.Deep.RegionHeld3
import Derived.Deep.RegionLaw
import Derived.Deep.DrawnRows
import Derived.Deep.AppendLies
namespace Go.Proofs.Ytndmpdpmfieacaa
open Go.RowKit Go.WideShapes Go.ChangeShapes
set_option linter.all false
attribute [local go_sem ↓] Go.wp_at_zero Go.wp_at_succ
theorem info3 : (Try.prog.info? 3).map (fun i => (i.zero, i.size, i.bytes)) = some (some (.int .i64 0), 1, 8) := by kernel_rfl
theorem asserts (n : Int) (w : World) : (Instr.typeAssert (.iface 3 (.int .i64 n)) 20 3 false).run Try.prog w = .ok (.int .i64 n) w := by kernel_rfl
/-- The world behind a Push onto an empty heap that lies at a. -/
def Pushed (P : Nat) (w w' : World) : Prop := ∃ g cap w1, Below w.heap.size w w1 ∧ w' = w1.setCell ⟨P, 0, none⟩ (.slice (some ⟨g, 0, none⟩) 1 cap)
set_option maxRecDepth 100000 in
set_option maxHeartbeats 3200000 in
theorem npush_any (P : Nat) (n : Int) (w : World) (hP : w.cell? ⟨P, 0, none⟩ = some (.slice none 0 0)) (hF : w.frozen? ⟨P, 0, none⟩ = false) :
    Calls Try.prog 129 #[.pointer (some ⟨P, 0, none⟩), .iface 3 (.int .i64 n)] w fun e w' => e = .returned (.tuple #[]) ∧ Pushed P w w' := by
  obtain ⟨i0, hi0, hz0, hz1, hz2⟩ := info_parts info3
  have lP := World.block_lt_of_cell? w _ hP
  have hown : w.ownsRow w.heap.size 3 1 (.slice none 0 0) 0 [] := World.ownsRow_nil _ _ _ _
  have hta := asserts n
  have hfa : ∀ o : Obj, (w.alloc o).frozen? ⟨P, 0, none⟩ = false := fun o => (((Below.refl w.heap.size w).alloc (Nat.le_refl _) o).frozen (p := ⟨P, 0, none⟩) lP).trans hF
  have hfb : ∀ o : Obj, (w.alloc o).drew.frozen? ⟨P, 0, none⟩ = false := fun o => (((Below.refl w.heap.size w).alloc (Nat.le_refl _) o).drew.frozen (p := ⟨P, 0, none⟩) lP).trans hF
  go_enter Try.func129, Try.ntmps129
  go_wp2_with fail
  go_region_law
    (refine step_append_lies _ (by rfl) _ _ _ (by rfl) w.heap.size 3 i0 _ 1 8 Try.underlying146 hi0 hz0 hz1 hz2 rfl (by omega) (.slice none 0 0) 0 [] (by rfl) ((hown.alloc _).drew)
        ⟨w.heap.size, 0, none⟩ 1 1 [.int .i64 n] (by rfl) (by rfl) (World.news_of_block (cs := #[.int .i64 n]) (t := 3) (fr := (0, 0)) (heap_alloc_new w _)) (by simp [Value.oneCell'])
        (by omega) (by unfold maxLen; omega) (by omega) (by simp) (w.heap.size + 1) (by simp) ?_
     intro gg cap w1 hown1 hgrow hat hlt
     have hc1 : w1.cell? ⟨P, 0, none⟩ = some (.slice none 0 0) := by rw [hgrow.cell_far _ (by simp; omega) (by simp [Value.ownBlock])]; exact ((((Below.refl w.heap.size w).alloc (Nat.le_refl _) _).drew.cell (p := ⟨P, 0, none⟩) lP)).trans hP
     have hf1 : w1.frozen? ⟨P, 0, none⟩ = false := by rw [hgrow.frozen_far _ (by simp; omega) (by simp [Value.ownBlock])]; exact hfb _)
  all_goals
    go_wp2
    have hb : Below w.heap.size w w1 := (((Below.refl w.heap.size w).alloc (Nat.le_refl _) _).drew).grown hgrow (by simp) (by simp [Value.ownBlock])
    first
      | (go_end0; exact ⟨rfl, gg, cap, w1, hb, rfl⟩)
      | (go_ret; exact ⟨rfl, gg, cap, w1, hb, rfl⟩)
      | (exact bodyPost_end0 ⟨rfl, gg, cap, w1, hb, rfl⟩)
end Go.Proofs.Ytndmpdpmfieacaa
