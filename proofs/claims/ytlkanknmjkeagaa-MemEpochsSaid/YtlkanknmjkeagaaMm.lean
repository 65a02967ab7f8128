/-
  A memory told by its turnstile, pins and epoch; no condition.
-/
import Derived.Test.YtlkanknmjkeagaaEp1
namespace Go.Proofs.Ytlkanknmjkeagaa
open Go.RowKit Go.WideShapes Go.ChangeShapes
set_option linter.all false
/-- A memory at M of k clients, its turnstile held by h. -/
structure Mm (M oM E oE R oR k : Nat) (h now : Int) (pin : Nat → Int) (w : World) : Prop where
  ep : Ep E oE R oR k now pin w
  c1 : w.cell? ⟨M, oM + 1, none⟩ = some (.pointer (some ⟨E, oE, none⟩))
  c3 : w.cell? ⟨M, oM + 3, none⟩ = some (.int .i64 k)
  c4 : w.cell? ⟨M, oM + 4, none⟩ = some (.int .i64 h)
  f4 : w.frozen? ⟨M, oM + 4, none⟩ = false
  ne : M ≠ E ∧ M ≠ R
section
variable {M oM E oE R oR k : Nat} {h now : Int} {pin : Nat → Int} {w w' : World}
theorem Mm.same (H : Mm M oM E oE R oR k h now pin w) (h1 : w'.heap[E]? = w.heap[E]?) (h2 : w'.heap[R]? = w.heap[R]?) (h3 : w'.heap[M]? = w.heap[M]?) : Mm M oM E oE R oR k h now pin w' :=
  ⟨H.ep.same h1 h2, (World.cell?_of_block (a := ⟨M, oM + 1, none⟩) h3).trans H.c1, (World.cell?_of_block (a := ⟨M, oM + 3, none⟩) h3).trans H.c3, (World.cell?_of_block (a := ⟨M, oM + 4, none⟩) h3).trans H.c4, (World.frozen?_of_block (a := ⟨M, oM + 4, none⟩) h3).trans H.f4, H.ne⟩
theorem Mm.lt (H : Mm M oM E oE R oR k h now pin w) (hk : 0 < k) : M < w.heap.size ∧ E < w.heap.size ∧ R < w.heap.size :=
  ⟨World.block_lt_of_cell? _ _ H.c1, World.block_lt_of_cell? _ _ H.ep.c0, World.block_lt_of_cell? _ _ (H.ep.pins 0 hk)⟩
theorem Mm.below (H : Mm M oM E oE R oR k h now pin w) (hk : 0 < k) (hb : Below w.heap.size w w') : Mm M oM E oE R oR k h now pin w' := by
  obtain ⟨a, b, c⟩ := H.lt hk
  exact H.same (hb.block _ b) (hb.block _ c) (hb.block _ a)
theorem Mm.drew (H : Mm M oM E oE R oR k h now pin w) : Mm M oM E oE R oR k h now pin w.drew := ⟨H.ep.drew, H.c1, H.c3, H.c4, H.f4, H.ne⟩
theorem Mm.hold (H : Mm M oM E oE R oR k h now pin w) (n : Int) : Mm M oM E oE R oR k n now pin (w.setCell ⟨M, oM + 4, none⟩ (.int .i64 n)) := by
  obtain ⟨a, b⟩ := H.ne
  exact ⟨H.ep.same (Below.heap_setCell _ _ _ _ (Ne.symm a)) (Below.heap_setCell _ _ _ _ (Ne.symm b)), (World.cell?_setCell_other _ _ _ _ (by simp)).trans H.c1, (World.cell?_setCell_other _ _ _ _ (by simp)).trans H.c3, World.cell?_setCell_same _ _ _ H.c4, by rw [World.frozen?_setCell]; exact H.f4, H.ne⟩
theorem Mm.setPin (H : Mm M oM E oE R oR k h now pin w) (j : Nat) (hj : j < k) (n : Int) : Mm M oM E oE R oR k h now (setPin pin j n) (w.setCell ⟨R, oR + j * 2, none⟩ (.int .i64 n)) := by
  obtain ⟨a, b⟩ := H.ne
  have hb := Below.heap_setCell w ⟨R, oR + j * 2, none⟩ (.int .i64 n) M b
  exact ⟨H.ep.setPin j hj n, (World.cell?_of_block (a := ⟨M, oM + 1, none⟩) hb).trans H.c1, (World.cell?_of_block (a := ⟨M, oM + 3, none⟩) hb).trans H.c3, (World.cell?_of_block (a := ⟨M, oM + 4, none⟩) hb).trans H.c4, (World.frozen?_of_block (a := ⟨M, oM + 4, none⟩) hb).trans H.f4, H.ne⟩
theorem Mm.setNow (H : Mm M oM E oE R oR k h now pin w) (n : Int) : Mm M oM E oE R oR k h n pin (w.setCell ⟨E, oE, none⟩ (.int .i64 n)) := by
  obtain ⟨a, b⟩ := H.ne
  have hb := Below.heap_setCell w ⟨E, oE, none⟩ (.int .i64 n) M a
  exact ⟨H.ep.setNow n, (World.cell?_of_block (a := ⟨M, oM + 1, none⟩) hb).trans H.c1, (World.cell?_of_block (a := ⟨M, oM + 3, none⟩) hb).trans H.c3, (World.cell?_of_block (a := ⟨M, oM + 4, none⟩) hb).trans H.c4, (World.frozen?_of_block (a := ⟨M, oM + 4, none⟩) hb).trans H.f4, H.ne⟩
end
end Go.Proofs.Ytlkanknmjkeagaa
