/-
  The law's counts; no condition.
-/
import Derived.Test.YtndmpdpmfieacaaArB
import Derived.Test.YtndmpdpmfieacaaBase
namespace Go.Proofs.Ytndmpdpmfieacaa
open Go.RowKit Go.WideShapes Go.ChangeShapes
set_option linter.all false
/-- Five numbers as an array's cells. -/
def five (a : Nat → Int) : Array Value := #[.int .i64 (a 0), .int .i64 (a 1), .int .i64 (a 2), .int .i64 (a 3), .int .i64 (a 4)]
theorem five_at (a : Nat → Int) {c : Nat} (hc : c < 5) : (five a)[c]? = some (.int .i64 (a c)) := by
  have : c = 0 ∨ c = 1 ∨ c = 2 ∨ c = 3 ∨ c = 4 := by omega
  rcases this with rfl | rfl | rfl | rfl | rfl <;> rfl
theorem five_set (a : Nat → Int) {c : Nat} (hc : c < 5) (x : Int) : (five a).setIfInBounds c (.int .i64 x) = five (up a c x) := by
  have : c = 0 ∨ c = 1 ∨ c = 2 ∨ c = 3 ∨ c = 4 := by omega
  rcases this with rfl | rfl | rfl | rfl | rfl <;> rfl
/-- The first c of them brought into bounds. -/
def cv (a : Nat → Int) (c i : Nat) : Int := if i < c then withinV (a i) 6 else a i
theorem cv_up (a : Nat → Int) (c : Nat) : up (cv a c) c (withinV (a c) 6) = cv a (c + 1) := by
  funext i
  by_cases e : i = c
  · subst e; rw [up_same]; simp [cv]
  · rw [up_other _ _ e]
    unfold cv
    by_cases h : i < c
    · rw [if_pos h, if_pos (by omega)]
    · rw [if_neg h, if_neg (by omega)]
def Cn (a : Nat → Int) (w : World) (g c : Nat) (W : World) : Prop := W.heap[g]? = some (.cells (five (cv a c)) 22 (0, 0)) ∧ W.heap[g + 1]? = some (.cells (five fun _ => 0) 22 (0, 0)) ∧ Below w.heap.size w W
set_option maxRecDepth 100000 in
set_option maxHeartbeats 3200000 in
theorem counts_any (a : Nat → Int) (w : World) : Calls Try.prog 12 #[.agg (five a)] w fun e w' => e = .returned (.agg (five fun i => withinV (a i) 6)) ∧ Below w.heap.size w w' := by
  have h0 : cv a 0 = a := by funext i; simp [cv]
  have h5 : five (cv a 5) = five fun i => withinV (a i) 6 := by simp [five, cv]
  rw [← h5]
  have H0 := Lib.hid h0
  clear h0 h5
  rw [show (Value.agg (five a)) = .agg #[.int .i64 (a 0), .int .i64 (a 1), .int .i64 (a 2), .int .i64 (a 3), .int .i64 (a 4)] from rfl]
  go_enter Try.func12, Try.ntmps12
  go_wp2
  obtain ⟨g, hg⟩ : ∃ g, g = w.heap.size := ⟨_, rfl⟩
  obtain ⟨W1, hW1⟩ : ∃ W1 : World, W1 = w.alloc (.cells #[.int .i64 (a 0), .int .i64 (a 1), .int .i64 (a 2), .int .i64 (a 3), .int .i64 (a 4)] 22) := ⟨_, rfl⟩
  obtain ⟨W2, hW2⟩ : ∃ W2 : World, W2 = W1.alloc (.cells #[.int .i64 0, .int .i64 0, .int .i64 0, .int .i64 0, .int .i64 0] 22) := ⟨_, rfl⟩
  have s1 : W1.heap.size = g + 1 := by rw [hW1, hg]; simp
  have b1 : Below w.heap.size w W1 := by rw [hW1]; exact below_alloc w _
  have b2 : Below W1.heap.size W1 W2 := by rw [hW2]; exact below_alloc W1 _
  have h1 : W1.heap[g]? = some (.cells (five a) 22 (0, 0)) := by rw [hW1, hg]; exact heap_alloc_new w _
  have h2 : W2.heap[g + 1]? = some (.cells (five fun _ => 0) 22 (0, 0)) := by rw [hW2, ← s1]; exact heap_alloc_new W1 _
  have HC : Hid (Cn a w g 0 W2) := Lib.hid ⟨by rw [H0.out]; exact (b2.block g (by omega)).trans h1, h2, b1.trans (b2.mono (by omega))⟩
  have HG := Lib.hid hg
  rw [← hW1, ← hW2, ← hg]
  clear hW1 hW2 s1 b1 b2 h1 h2 hg
  go_loopw [4] (fun i W => ∃ c : Nat, i = .int .i64 c ∧ c ≤ 5 ∧ Hid (Cn a w g c W)) (fun i _ => 5 - (intOf i).toNat)
  case atStart => exact ⟨0, rfl, Nat.zero_le _, HC⟩
  case round =>
    clear HC
    obtain ⟨c, rfl, hc, HC⟩ := hrel
    have c0 : (0 : Int) ≤ c := by omega
    by_cases h5 : c < 5
    · have c5 : (c : Int) < 5 := by omega
      have d0 : wr.cell? ⟨g, c, none⟩ = some (.int .i64 (a c)) := by rw [cell_of HC.out.1, five_at _ h5]; simp [cv]
      have f0 := frozen_of HC.out.1 c
      go_wp2_with (first
        | (go_at_call 21; refine (within_any _ 5 (by omega) (by omega) _).mono ?_; rintro e w' ⟨rfl, rfl⟩)
        | fail)
      go_roundw
      case rel =>
        refine ⟨c + 1, by go_num, by omega, Lib.hid ⟨?_, (heap_far _ _ _ (by show g + 1 ≠ g; omega)).trans HC.out.2.1, HC.out.2.2.setCell (p := ⟨g, c, none⟩) (Nat.le_of_eq HG.out.symm) _⟩⟩
        rw [heap_setCell_same _ g c _ 22 _ HC.out.1, five_set _ h5, ← cv_up]
      case measure => simp only [intOf]; omega
    · obtain rfl : c = 5 := by omega
      have d0 := (cell_of HC.out.1 0).trans (five_at _ (by decide : 0 < 5))
      have d1 := (cell_of HC.out.1 1).trans (five_at _ (by decide : 1 < 5))
      have d2 := (cell_of HC.out.1 2).trans (five_at _ (by decide : 2 < 5))
      have d3 := (cell_of HC.out.1 3).trans (five_at _ (by decide : 3 < 5))
      have d4 := (cell_of HC.out.1 4).trans (five_at _ (by decide : 4 < 5))
      have e0 := (cell_of HC.out.2.1 0).trans (five_at _ (by decide : 0 < 5))
      have e1 := (cell_of HC.out.2.1 1).trans (five_at _ (by decide : 1 < 5))
      have e2 := (cell_of HC.out.2.1 2).trans (five_at _ (by decide : 2 < 5))
      have e3 := (cell_of HC.out.2.1 3).trans (five_at _ (by decide : 3 < 5))
      have e4 := (cell_of HC.out.2.1 4).trans (five_at _ (by decide : 4 < 5))
      have f1 := frozen_of HC.out.2.1
      go_wp2
      have r1 := heap_setCell_same wr (g + 1) 0 _ 22 (.int .i64 (cv a 5 0)) HC.out.2.1
      have r2 := heap_setCell_same _ (g + 1) 1 _ 22 (.int .i64 (cv a 5 1)) r1
      have r3 := heap_setCell_same _ (g + 1) 2 _ 22 (.int .i64 (cv a 5 2)) r2
      have r4 := heap_setCell_same _ (g + 1) 3 _ 22 (.int .i64 (cv a 5 3)) r3
      have r5 := heap_setCell_same _ (g + 1) 4 _ 22 (.int .i64 (cv a 5 4)) r4
      have hge : w.heap.size ≤ g + 1 := by have := HG.out; omega
      have hb := ((((HC.out.2.2.setCell (p := ⟨g + 1, 0, none⟩) hge (.int .i64 (cv a 5 0))).setCell (p := ⟨g + 1, 1, none⟩) hge (.int .i64 (cv a 5 1))).setCell (p := ⟨g + 1, 2, none⟩) hge (.int .i64 (cv a 5 2))).setCell (p := ⟨g + 1, 3, none⟩) hge (.int .i64 (cv a 5 3))).setCell (p := ⟨g + 1, 4, none⟩) hge (.int .i64 (cv a 5 4))
      obtain ⟨Z, hZ⟩ : ∃ Z : World, Z = (((((wr.setCell ⟨g + 1, 0, none⟩ (.int .i64 (cv a 5 0))).setCell ⟨g + 1, 1, none⟩ (.int .i64 (cv a 5 1))).setCell ⟨g + 1, 2, none⟩ (.int .i64 (cv a 5 2))).setCell ⟨g + 1, 3, none⟩ (.int .i64 (cv a 5 3))).setCell ⟨g + 1, 4, none⟩ (.int .i64 (cv a 5 4))) := ⟨_, rfl⟩
      rw [← hZ] at r5 hb ⊢
      have x0 : Z.cell? ⟨g + 1, 0, none⟩ = some (.int .i64 (cv a 5 0)) := cell_of r5 0
      have x1 : Z.cell? ⟨g + 1, 1, none⟩ = some (.int .i64 (cv a 5 1)) := cell_of r5 1
      have x2 : Z.cell? ⟨g + 1, 2, none⟩ = some (.int .i64 (cv a 5 2)) := cell_of r5 2
      have x3 : Z.cell? ⟨g + 1, 3, none⟩ = some (.int .i64 (cv a 5 3)) := cell_of r5 3
      have x4 : Z.cell? ⟨g + 1, 4, none⟩ = some (.int .i64 (cv a 5 4)) := cell_of r5 4
      exact bodyPost_ret (v := .agg #[.int .i64 (cv a 5 0), .int .i64 (cv a 5 1), .int .i64 (cv a 5 2), .int .i64 (cv a 5 3), .int .i64 (cv a 5 4)]) (by simp [results, Try.results12, go_sem, x0, x1, x2, x3, x4]) rfl ⟨rfl, hb⟩
end Go.Proofs.Ytndmpdpmfieacaa
