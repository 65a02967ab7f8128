/-
  A number put into a new pool; the law PoolBounds.
-/
import Derived.Test.YtdkokpaboipamabPl3
namespace Go.Proofs.Ytdkokpaboipamab
open Go.RowKit Go.WideShapes Go.ChangeShapes
set_option linter.all false
/-- Behind the Put of j. -/
structure Had (W : World) (P k j : Nat) (w : World) : Prop where
  pool : ∃ g cap, Pool W P k (.slice (some ⟨g, 0, none⟩) 1 cap) w
  row : w.cell? ⟨W.heap.size, j, none⟩ = some (.bool true)
section
variable {W : World} {P k : Nat} {w : World}
theorem Fresh.had (h : Fresh W P k w) (j : Nat) (hj : j < k) {w' : World} (hq : Pushed P (w.setCell ⟨W.heap.size, j, none⟩ (.bool true)) w') : Had W P k j w' := by
  obtain ⟨g, cap, w1, hb, rfl⟩ := hq
  have hP := h.hP
  have hPl := World.block_lt_of_cell? w _ h.c0
  have hIl := World.block_lt_of_cell? w _ (h.row j hj)
  have hsz : (w.setCell ⟨W.heap.size, j, none⟩ (.bool true)).heap.size = w.heap.size := by simp
  have e0 : w1.cell? ⟨P, 0, none⟩ = some (.slice none 0 0) := by
    rw [hb.cell (p := ⟨P, 0, none⟩) (by rw [hsz]; exact hPl), World.cell?_setCell_far _ _ _ _ (by show W.heap.size ≠ P; omega)]; exact h.c0
  have e1 : w1.cell? ⟨P, 1, none⟩ = some (.slice (some ⟨W.heap.size, 0, none⟩) k k) := by
    rw [hb.cell (p := ⟨P, 1, none⟩) (by rw [hsz]; exact hPl), World.cell?_setCell_far _ _ _ _ (by show W.heap.size ≠ P; omega)]; exact h.c1
  have e2 : w1.cell? ⟨W.heap.size, j, none⟩ = some (.bool true) := by
    rw [hb.cell (p := ⟨W.heap.size, j, none⟩) (by rw [hsz]; exact hIl)]; exact World.cell?_setCell_same _ _ _ (h.row j hj)
  refine ⟨⟨g, cap, World.cell?_setCell_same _ _ _ e0, ?_, hP, ?_⟩, ?_⟩
  · rw [World.cell?_setCell_other _ _ _ _ (by simp)]; exact e1
  · exact ((h.bel.setCell (by simp) _).trans (hb.mono (by rw [hsz]; exact h.bel.size))).setCell (by simp; omega) _
  · rw [World.cell?_setCell_far _ _ _ _ (by show P ≠ W.heap.size; omega)]; exact e2
set_option maxRecDepth 100000 in
set_option maxHeartbeats 400000 in
theorem put_in (h : Fresh W P k w) (j : Nat) (hj : j < k) : Calls Try.prog 6 #[.pointer (some ⟨P, 0, none⟩), .int .i64 j] w fun e w' => e = .returned (.bool true) ∧ Had W P k j w' := by
  have h0 := h.c0
  have h1 := h.c1
  have f0 := h.f0
  have r0 := h.row j hj
  have r1 := h.frow j hj
  have hP := h.hP
  have hj1 : (j : Int) < k := by omega
  have hj0 : (0 : Int) ≤ j := by omega
  have e0 : (w.setCell ⟨W.heap.size, j, none⟩ (.bool true)).cell? ⟨P, 0, none⟩ = some (.slice none 0 0) := by
    rw [World.cell?_setCell_far _ _ _ _ (by show W.heap.size ≠ P; omega)]; exact h0
  have e1 : (w.setCell ⟨W.heap.size, j, none⟩ (.bool true)).frozen? ⟨P, 0, none⟩ = false := by simp [f0]
  go_enter Try.func6, Try.ntmps6
  go_wp2_with (first
    | (go_at_call 10; refine (hpush_any P _ _ e0 e1).mono ?_; rintro e w1 ⟨rfl, hq⟩)
    | fail)
  go_ret
  exact ⟨rfl, h.had j hj hq⟩
end
set_option maxRecDepth 100000 in
set_option maxHeartbeats 4000000 in
theorem bounds_in (m : Int) (j k : Nat) (hk : k ≤ 65535) (hj : j < k) (W : World) (hm : withinV m (65535 + 1) = k) :
    Calls Try.prog 3 #[.int .i64 m, .int .i64 j] W fun e w' => e = .returned (.bool true) ∧ Below W.heap.size W w' := by
  have hj1 : (j : Int) < k := by omega
  have hj0 : (0 : Int) ≤ j := by omega
  go_enter Try.func3, Try.ntmps3
  have F1 : Hid True := trivial
  have F2 : Hid True := trivial
  have F3 : Hid True := trivial
  go_wp2_with (first
    | (go_at_call 4; refine (within_any _ 65535 (by omega) (by omega) _).mono ?_; rintro e w1 ⟨rfl, rfl⟩; rw [hm])
    | (go_at_call 5; refine (new_any k _ hk).mono ?_; rintro e w2 ⟨P, rfl, HF⟩)
    | (go_at_call 6; clear F1; refine (put_in HF j hj).mono ?_; rintro e w3 ⟨rfl, HH⟩; obtain ⟨⟨g, cap, HP⟩, HR⟩ := HH)
    | (go_at_call 7; clear F2; refine (has_in HP j true hj HR).mono ?_; rintro e w4 ⟨rfl, rfl⟩)
    | (go_at_call 6; clear F3; refine (put_out HP k (.inr (Int.le_refl _))).mono ?_; rintro e w5 ⟨rfl, rfl⟩)
    | (go_at_call 6; refine (put_out HP (-1) (.inl (by omega))).mono ?_; rintro e w6 ⟨rfl, rfl⟩)
    | (go_at_call 7; refine (has_out HP k (.inr (Int.le_refl _))).mono ?_; rintro e w7 ⟨rfl, rfl⟩)
    | (go_at_call 8; refine (len_any HP).mono ?_; rintro e w8 ⟨rfl, rfl⟩)
    | (go_at_call 9; refine (poolRuns_any _).mono ?_; rintro e w9 ⟨rfl, hb9⟩)
    | fail)
  all_goals first
    | (go_ret; exact ⟨rfl, HP.bel.trans (hb9.mono HP.bel.size)⟩)
set_option maxRecDepth 100000 in
set_option maxHeartbeats 4000000 in
theorem bounds_out (m n : Int) (k : Nat) (hk : k ≤ 65535) (hn : n < 0 ∨ (k : Int) ≤ n) (W : World) (hm : withinV m (65535 + 1) = k) :
    Calls Try.prog 3 #[.int .i64 m, .int .i64 n] W fun e w' => e = .returned (.bool true) ∧ Below W.heap.size W w' := by
  go_enter Try.func3, Try.ntmps3
  have H : Hid (n < 0 ∨ (k : Int) ≤ n) := hn
  clear hn
  have F1 : Hid True := trivial
  have F2 : Hid True := trivial
  have F3 : Hid True := trivial
  go_wp2_with (first
    | (go_at_call 4; refine (within_any _ 65535 (by omega) (by omega) _).mono ?_; rintro e w1 ⟨rfl, rfl⟩; rw [hm])
    | (go_at_call 5; refine (new_any k _ hk).mono ?_; rintro e w2 ⟨P, rfl, HF⟩; have HP := HF.toPool)
    | (go_at_call 6; clear F1; refine (put_out HP n H.out).mono ?_; rintro e w3 ⟨rfl, rfl⟩)
    | (go_at_call 7; clear F2; refine (has_out HP n H.out).mono ?_; rintro e w4 ⟨rfl, rfl⟩)
    | (go_at_call 6; clear F3; refine (put_out HP k (.inr (Int.le_refl _))).mono ?_; rintro e w5 ⟨rfl, rfl⟩)
    | (go_at_call 6; refine (put_out HP (-1) (.inl (by omega))).mono ?_; rintro e w6 ⟨rfl, rfl⟩)
    | (go_at_call 7; refine (has_out HP k (.inr (Int.le_refl _))).mono ?_; rintro e w7 ⟨rfl, rfl⟩)
    | (go_at_call 8; refine (len_any HP).mono ?_; rintro e w8 ⟨rfl, rfl⟩)
    | (go_at_call 9; refine (poolRuns_any _).mono ?_; rintro e w9 ⟨rfl, hb9⟩)
    | fail)
  all_goals first
    | (exfalso; have := H.out; omega)
    | (go_ret; exact ⟨rfl, HP.bel.trans (hb9.mono HP.bel.size)⟩)
    | (go_ret; refine ⟨?_, HP.bel.trans (hb9.mono HP.bel.size)⟩; show Ending.returned (Value.bool (!decide (n < (k : Int)))) = _; rw [decide_eq_false (by have := H.out; omega)]; rfl)
theorem bounds_any (m n : Int) (W : World) :
    Calls Try.prog 3 #[.int .i64 m, .int .i64 n] W fun e w' => e = .returned (.bool true) ∧ Below W.heap.size W w' := by
  obtain ⟨k, hm, hk⟩ := withinV_nat m 65536 (by omega)
  have hm' : withinV m (65535 + 1) = k := hm
  by_cases h : 0 ≤ n ∧ n < k
  · obtain ⟨j, rfl⟩ := Int.eq_ofNat_of_zero_le h.1
    exact bounds_in m j k (by omega) (by omega) W hm'
  · exact bounds_out m n k (by omega) (by omega) W hm'
end Go.Proofs.Ytdkokpaboipamab
