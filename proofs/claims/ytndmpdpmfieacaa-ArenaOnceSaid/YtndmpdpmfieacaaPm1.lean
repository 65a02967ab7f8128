/-
  The pool's numbers: what Push does to a row of its own.
-/
import Derived.Test.YtndmpdpmfieacaaPl2
import Derived.Lib.Hide
namespace Go.Proofs.Ytndmpdpmfieacaa
open Go.RowKit Go.WideShapes Go.ChangeShapes
set_option linter.all false
attribute [local go_sem ↓] Go.wp_at_zero Go.wp_at_succ
/-- Behind a Push of n onto the row v of P. -/
def PushedOn (P B m : Nat) (v : Value) (xs : List Value) (n : Int) (w w' : World) : Prop :=
  ∃ g cap w1, w1.ownsRow B 3 1 (.slice (some ⟨g, 0, none⟩) (m + 1) cap) (m + 1) (xs ++ [.int .i64 n]) ∧ w.grownBy w1 v.ownBlock ∧ (v.ownBlock = some g ∨ w.heap.size ≤ g) ∧ w' = w1.setCell ⟨P, 0, none⟩ (.slice (some ⟨g, 0, none⟩) (m + 1) cap)
theorem grown_alloc {w w1 : World} {o : Obj} {row : Option Nat} (h : (w.alloc o).drew.grownBy w1 row) : w.grownBy w1 row :=
  ⟨h.os, h.tape, h.output, by have := h.size; simp at this; omega, fun k hk hr => (h.block k (by simp; omega) hr).trans (Below.heap_alloc w o k hk)⟩
set_option maxRecDepth 100000 in
set_option maxHeartbeats 3200000 in
theorem npush_own (P B m c : Nat) (A : Option Addr) (xs : List Value) (n : Int) (w : World) (hm : m < 1000000) (hPB : P < B) (hP : w.cell? ⟨P, 0, none⟩ = some (.slice A m c)) (hF : w.frozen? ⟨P, 0, none⟩ = false)
    (hown : w.ownsRow B 3 1 (.slice A m c) m xs) (hBw : B ≤ w.heap.size) :
    Calls Try.prog 129 #[.pointer (some ⟨P, 0, none⟩), .iface 3 (.int .i64 n)] w fun e w' => e = .returned (.tuple #[]) ∧ PushedOn P B m (.slice A m c) xs n w w' := by
  obtain ⟨i0, hi0, hz0, hz1, hz2⟩ := info_parts info3
  have lP := World.block_lt_of_cell? w _ hP
  have hrow : some P ≠ (Value.slice A m c).ownBlock := by
    intro e
    have := (hown.lt P e.symm).1
    omega
  have hta := asserts n
  have hpa : ∀ o : Obj, (w.alloc o).drew.cell? ⟨P, 0, none⟩ = some (.slice A m c) := fun o => (((Below.refl w.heap.size w).alloc (Nat.le_refl _) o).drew.cell (p := ⟨P, 0, none⟩) lP).trans hP
  have hfa : ∀ o : Obj, (w.alloc o).frozen? ⟨P, 0, none⟩ = false := fun o => (((Below.refl w.heap.size w).alloc (Nat.le_refl _) o).frozen (p := ⟨P, 0, none⟩) lP).trans hF
  have hfb : ∀ o : Obj, (w.alloc o).drew.frozen? ⟨P, 0, none⟩ = false := fun o => (((Below.refl w.heap.size w).alloc (Nat.le_refl _) o).drew.frozen (p := ⟨P, 0, none⟩) lP).trans hF
  have HR := Lib.hid hrow
  clear hrow
  go_enter Try.func129, Try.ntmps129
  go_wp2_with fail
  go_region_law
    (refine step_append_lies _ (by rfl) _ _ _ (by rfl) B 3 i0 _ 1 8 Try.underlying146 hi0 hz0 hz1 hz2 rfl (by omega) (.slice A m c) m xs (by rfl) ((hown.alloc _).drew)
        ⟨w.heap.size, 0, none⟩ 1 1 [.int .i64 n] (by rfl) (by rfl) (World.news_of_block (cs := #[.int .i64 n]) (t := 3) (fr := (0, 0)) (heap_alloc_new w _)) (by simp [Value.oneCell'])
        (by omega) (by unfold maxLen; omega) (by omega) (by simp; omega) (w.heap.size + 1) (by simp) ?_
     intro gg cap w1 hown1 hgrow hat hlt
     have hc1 : w1.cell? ⟨P, 0, none⟩ = some (.slice A m c) := by rw [hgrow.cell_far _ (by simp; omega) HR.out]; exact hpa _
     have hf1 : w1.frozen? ⟨P, 0, none⟩ = false := by rw [hgrow.frozen_far _ (by simp; omega) HR.out]; exact hfb _)
  all_goals
    have G := grown_alloc hgrow
    have HO := Lib.hid hown1
    clear hown1 hgrow
    go_wp2
    have K : PushedOn P B m (.slice A m c) xs n w (w1.setCell ⟨P, 0, none⟩ (.slice (some ⟨gg, 0, none⟩) (m + 1) cap)) := ⟨gg, cap, w1, HO.out, G, (by rcases hat with h | h; exact .inl h; exact .inr (by omega)), rfl⟩
    first
      | (go_end0; exact ⟨rfl, K⟩)
      | (go_ret; exact ⟨rfl, K⟩)
      | (exact bodyPost_end0 ⟨rfl, K⟩)
end Go.Proofs.Ytndmpdpmfieacaa
