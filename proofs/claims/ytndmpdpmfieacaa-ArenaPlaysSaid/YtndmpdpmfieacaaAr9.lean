/-
  A fresh slot; no condition.
-/
import Derived.Test.YtndmpdpmfieacaaAr8
namespace Go.Proofs.Ytndmpdpmfieacaa
open Go.RowKit Go.WideShapes Go.ChangeShapes
set_option linter.all false
set_option maxRecDepth 100000 in
set_option maxHeartbeats 1600000 in
theorem fresh_any (c : Nat) (hc : c < 5) (w : World) : Calls Try.prog 49 #[.int .i64 (c : Nat)] w fun e w' => ∃ b, e = .returned (.agg #[.int .i64 (c : Nat), .int .i64 1, .bool false, .slice (some ⟨b, 0, none⟩) (szN c) (szN c)]) ∧
    w'.heap[b]? = some (.cells (List.replicate (szN c) (Value.int .u64 poisonV)).toArray 35 (0, 0)) ∧ w.heap.size ≤ b ∧ Below w.heap.size w w' := by
  have hle := szN_le c
  have hs := fun W => size_in c hc W
  generalize szN c = n at *
  have hmk := fun w => run_make_row' (P := Try.prog) 30 35 (.int .u64 0) 8 Try.underlying30 info35b rfl .i64 .i64 n (by omega) (by omega) w
  go_enter Try.func49, Try.ntmps49
  go_upto_region 2 with (first
    | (go_at_call 22; refine (hs _).mono ?_; rintro e w' ⟨rfl, rfl⟩)
    | fail)
  obtain ⟨g, hg⟩ : ∃ g, g = w.heap.size := ⟨_, rfl⟩
  obtain ⟨W1, hW1⟩ : ∃ W1, W1 = w.alloc (.cells #[.int .i64 0, .int .i64 0, .bool false, .slice none 0 0] 114) := ⟨_, rfl⟩
  obtain ⟨W2, hW2⟩ : ∃ W2, W2 = W1.alloc (.cells (madeCells #[.int .u64 0] n) 35) := ⟨_, rfl⟩
  obtain ⟨W3, hW3⟩ : ∃ W3, W3 = W2.alloc (.cells #[.int .i64 (c : Nat), .int .i64 1, .bool false, .slice (some ⟨g + 1, 0, none⟩) n n] 114) := ⟨_, rfl⟩
  have s1 : W1.heap.size = g + 1 := by rw [hW1, hg]; simp
  have s2 : W2.heap.size = g + 2 := by rw [hW2]; simp [s1]
  have s3 : W3.heap.size = g + 3 := by rw [hW3]; simp [s2]
  have b1 : Below w.heap.size w W1 := by rw [hW1]; exact (Below.refl _ _).alloc (Nat.le_refl _) _
  have b2 : Below W1.heap.size W1 W2 := by rw [hW2]; exact (Below.refl _ _).alloc (Nat.le_refl _) _
  have b3 : Below W2.heap.size W2 W3 := by rw [hW3]; exact (Below.refl _ _).alloc (Nat.le_refl _) _
  have h1 : W1.heap[g]? = some (.cells #[.int .i64 0, .int .i64 0, .bool false, .slice none 0 0] 114 (0, 0)) := by rw [hW1, hg]; exact heap_alloc_new w _
  have h2 : W2.heap[g + 1]? = some (.cells (madeCells #[.int .u64 0] n) 35 (0, 0)) := by rw [hW2, ← s1]; exact heap_alloc_new W1 _
  have h3 : W3.heap[g + 2]? = some (.cells #[.int .i64 (c : Nat), .int .i64 1, .bool false, .slice (some ⟨g + 1, 0, none⟩) n n] 114 (0, 0)) := by rw [hW3, ← s2]; exact heap_alloc_new W2 _
  have h1' : W3.heap[g]? = some (.cells #[.int .i64 0, .int .i64 0, .bool false, .slice none 0 0] 114 (0, 0)) := (b3.block g (by omega)).trans ((b2.block g (by omega)).trans h1)
  have h2' : W3.heap[g + 1]? = some (.cells (madeCells #[.int .u64 0] n) 35 (0, 0)) := (b3.block (g + 1) (by omega)).trans h2
  have hB : Below w.heap.size w W3 := b1.trans ((b2.trans (b3.mono (by omega))).mono (by omega))
  rw [← hg, ← hW1, ← hW2, ← hW3]
  have hpo := poison_any (g + 2) 0 (g + 1) n (madeCells #[.int .u64 0] n).toList W3 (by rw [cell_of h3]; rfl) (by simpa using h2') (made_len n) (by omega) (by omega)
  have HB := Lib.hid hB
  have HG := Lib.hid hg
  have H1 := Lib.hid h1'
  have H3 := Lib.hid h3
  have S3 := Lib.hid s3
  clear hW1 hW2 hW3 s1 s2 b1 b2 b3 h1 h2 h3 h1' h2' hB hg hmk hs s3
  go_upto_region 3 with (first
    | (go_at_call 54; refine hpo.mono ?_; rintro e w4 ⟨rfl, hb4, hg4⟩
       have q1 : w4.heap[g]? = _ := (hg4.block g (by have := S3.out; omega) (by intro e; injection e with e; omega)).trans H1.out
       have q3 : w4.heap[g + 2]? = _ := (hg4.block (g + 2) (by have := S3.out; omega) (by intro e; injection e with e; omega)).trans H3.out
       have HB4 : Hid (Below w.heap.size w w4) := Lib.hid (HB.out.grown hg4 (by have := HG.out; have := S3.out; omega) (fun x hx => by injection hx with hx; have := HG.out; omega))
       have HW4 := Lib.hid hb4
       clear hb4 hg4)
    | fail)
  have d0 := cell_of q1 0
  have d1 := cell_of q1 1
  have d2 := cell_of q1 2
  have d3 := cell_of q1 3
  have f1 := frozen_of q1
  have e0 := cell_of q3 0
  have e1 := cell_of q3 1
  have e2 := cell_of q3 2
  have e3 := cell_of q3 3
  simp only [List.getElem?_toArray, List.getElem?_cons_zero, List.getElem?_cons_succ] at d0 d1 d2 d3 e0 e1 e2 e3
  have Q1 := Lib.hid q1
  clear q1 q3 hpo
  go_wp2
  have r1 := heap_setCell_same w4 g 0 _ 114 (.int .i64 (c : Nat)) Q1.out
  have r2 := heap_setCell_same _ g 1 _ 114 (.int .i64 1) r1
  have r3 := heap_setCell_same _ g 2 _ 114 (.bool false) r2
  have r4 := heap_setCell_same _ g 3 _ 114 (.slice (some ⟨g + 1, 0, none⟩) n n) r3
  obtain ⟨W5, hW5⟩ : ∃ W5, W5 = ((((w4.setCell ⟨g, 0, none⟩ (.int .i64 (c : Nat))).setCell ⟨g, 1, none⟩ (.int .i64 1)).setCell ⟨g, 2, none⟩ (.bool false)).setCell ⟨g, 3, none⟩ (.slice (some ⟨g + 1, 0, none⟩) n n)) := ⟨_, rfl⟩
  have h5 : W5.heap[g + 1]? = w4.heap[g + 1]? := by
    rw [hW5, heap_far _ _ _ (by simp), heap_far _ _ _ (by simp), heap_far _ _ _ (by simp), heap_far _ _ _ (by simp)]
  have b5 : Below w.heap.size w W5 := by
    have hge := Nat.le_of_eq HG.out.symm
    rw [hW5]; exact (((HB4.out.setCell (p := ⟨g, 0, none⟩) hge _).setCell (p := ⟨g, 1, none⟩) hge _).setCell (p := ⟨g, 2, none⟩) hge _).setCell (p := ⟨g, 3, none⟩) hge _
  rw [← hW5] at r4 ⊢
  have x0 := cell_of r4 0
  have x1 := cell_of r4 1
  have x2 := cell_of r4 2
  have x3 := cell_of r4 3
  clear hW5 d0 d1 d2 d3 e0 e1 e2 e3 r1 r2 r3 f1
  replace x0 : W5.cell? ⟨g, 0, none⟩ = some (.int .i64 (c : Nat)) := x0
  replace x1 : W5.cell? ⟨g, 1, none⟩ = some (.int .i64 1) := x1
  replace x2 : W5.cell? ⟨g, 2, none⟩ = some (.bool false) := x2
  replace x3 : W5.cell? ⟨g, 3, none⟩ = some (.slice (some ⟨g + 1, 0, none⟩) n n) := x3
  exact bodyPost_ret (v := .agg #[.int .i64 (c : Nat), .int .i64 1, .bool false, .slice (some ⟨g + 1, 0, none⟩) n n]) (by simp [results, Try.results49, go_sem, x0, x1, x2, x3]) rfl ⟨g + 1, rfl, h5.trans HW4.out, by have := HG.out; omega, b5⟩
end Go.Proofs.Ytndmpdpmfieacaa
