/-
  The epochs told by what waits: New, Retire, Collect, Limbo; conditions: sizes.
-/
import Derived.Test.YtafedpphecfgnaaMid
import Derived.Test.YtafedpphecfgnaaChecked
import Derived.WalkKit
import Derived.OpenShut
import Derived.Below
import Derived.ChangeSame
import Derived.WalkLawsBesides
import Derived.BigFrame
import Derived.BigRegion
import Derived.OwnWalk
import Derived.Laws.OwnMore
import Derived.Laws.Small
import Derived.Laws.Cover1
import Derived.Laws.Slices
import Derived.IntWalk
import Derived.Lib.Hide
import Derived.Deep.RegionHeld3
import Derived.Deep.RegionLaw
import Derived.Deep.DrawnRows
namespace Go.Proofs.Ytafedpphecfgnaa
open Go.RowKit Go.WideShapes Go.ChangeShapes
set_option linter.all false
attribute [local go_sem ↓] Go.wp_at_zero Go.wp_at_succ
/-- A retired ref and its epoch, as cells. -/
def prs : List (Int × Int) → List Value
  | [] => []
  | p :: r => .int .i64 p.1 :: .int .i64 p.2 :: prs r
theorem prs_len : ∀ l, (prs l).length = l.length * 2
  | [] => rfl
  | _ :: r => by simp [prs, prs_len r]; omega
theorem prs_append : ∀ a b, prs (a ++ b) = prs a ++ prs b
  | [], _ => rfl
  | _ :: r, b => by simp [prs, prs_append r b]
theorem prs_drop (l : List (Int × Int)) : prs (l.drop 1) = (prs l).drop (1 * 2) := by cases l <;> simp [prs]
/-- Epochs at E, k clients in the row at R, each with room for lim; the client j's list is V j, which reads X j. -/
structure Es (N E R k : Nat) (lim now : Int) (V : Nat → Value) (X : Nat → List (Int × Int)) (w : World) : Prop where
  c0 : w.cell? ⟨E, 0, none⟩ = some (.int .i64 now)
  f0 : w.frozen? ⟨E, 0, none⟩ = false
  c1 : w.cell? ⟨E, 1, none⟩ = some (.int .i64 lim)
  c2 : w.cell? ⟨E, 2, none⟩ = some (.slice (some ⟨R, 0, none⟩) k k)
  cv : ∀ j, j < k → w.cell? ⟨R, j * 2 + 1, none⟩ = some (V j)
  fv : ∀ j, j < k → w.frozen? ⟨R, j * 2 + 1, none⟩ = false
  own : ∀ j, j < k → Mid w (E + 1) 61 2 (V j) (X j).length (prs (X j))
  apart : ∀ i j, i < k → j < k → i ≠ j → ∀ g, (V i).ownBlock = some g → (V j).ownBlock ≠ some g
  ne : R < E
  low : N ≤ R
/-- What a call on client c's list did. -/
structure Did (E R : Nat) (v v' : Value) (w w' : World) : Prop where
  os : w'.os = w.os
  tape : w'.tape = w.tape
  output : w'.output = w.output
  size : w.heap.size ≤ w'.heap.size
  block : ∀ b, b < w.heap.size → b ≠ E → b ≠ R → some b ≠ v.ownBlock → w'.heap[b]? = w.heap[b]?
  at_ : v'.ownBlock = v.ownBlock ∨ ∀ g, v'.ownBlock = some g → w.heap.size ≤ g
section
variable {N E R k : Nat} {lim now : Int} {V : Nat → Value} {X : Nat → List (Int × Int)} {w w' : World}
theorem Es.lt (h : Es N E R k lim now V X w) : E < w.heap.size := World.block_lt_of_cell? _ _ h.c0
theorem Es.far (h : Es N E R k lim now V X w) (j : Nat) (hj : j < k) : ∀ g, (V j).ownBlock = some g → E < g ∧ g < w.heap.size := fun g hg => by have := (h.own j hj).lt g hg; omega
theorem Es.same (h : Es N E R k lim now V X w) (hb : ∀ b, b < w.heap.size → w'.heap[b]? = w.heap[b]?) : Es N E R k lim now V X w' := by
  have l := h.lt
  have r := h.ne
  have e1 := hb E l
  have e2 := hb R (by omega)
  exact ⟨(World.cell?_of_block (a := ⟨E, 0, none⟩) e1).trans h.c0, (World.frozen?_of_block (a := ⟨E, 0, none⟩) e1).trans h.f0, (World.cell?_of_block (a := ⟨E, 1, none⟩) e1).trans h.c1, (World.cell?_of_block (a := ⟨E, 2, none⟩) e1).trans h.c2,
    fun j hj => (World.cell?_of_block (a := ⟨R, j * 2 + 1, none⟩) e2).trans (h.cv j hj), fun j hj => (World.frozen?_of_block (a := ⟨R, j * 2 + 1, none⟩) e2).trans (h.fv j hj),
    fun j hj => (h.own j hj).same fun g hg => hb g (h.far j hj g hg).2, h.apart, h.ne, h.low⟩
theorem Es.below (h : Es N E R k lim now V X w) (hb : Below w.heap.size w w') : Es N E R k lim now V X w' := h.same fun b hl => hb.block b hl
theorem Es.drew (h : Es N E R k lim now V X w) : Es N E R k lim now V X w.drew := h.same fun _ _ => rfl
theorem Es.setNow (h : Es N E R k lim now V X w) (n : Int) : Es N E R k lim n V X (w.setCell ⟨E, 0, none⟩ (.int .i64 n)) := by
  have r := h.ne
  exact ⟨World.cell?_setCell_same _ _ _ h.c0, by rw [World.frozen?_setCell]; exact h.f0, (World.cell?_setCell_other _ _ _ _ (by simp)).trans h.c1, (World.cell?_setCell_other _ _ _ _ (by simp)).trans h.c2,
    fun j hj => (World.cell?_setCell_far _ _ _ _ (by show E ≠ R; omega)).trans (h.cv j hj), fun j hj => by rw [World.frozen?_setCell]; exact h.fv j hj,
    fun j hj => (h.own j hj).same fun g hg => Below.heap_setCell _ _ _ _ (by have := (h.far j hj g hg).1; show g ≠ E; omega), h.apart, h.ne, h.low⟩
def upd {α : Type} (f : Nat → α) (j : Nat) (a : α) : Nat → α := fun i => if i = j then a else f i
/-- The list of client j is another one. -/
theorem Es.setList (h : Es N E R k lim now V X w) (j : Nat) (hj : j < k) {w1 : World} {v' : Value} {xs : List (Int × Int)} (hr : Ran (V j) v' w w1) (hm : Mid w1 (E + 1) 61 2 v' xs.length (prs xs)) :
    Es N E R k lim now (upd V j v') (upd X j xs) (w1.setCell ⟨R, j * 2 + 1, none⟩ v') ∧ Did E R (V j) v' w (w1.setCell ⟨R, j * 2 + 1, none⟩ v') := by
  have l := h.lt
  have r := h.ne
  have oE : some E ≠ (V j).ownBlock := fun e => by have := h.far j hj E e.symm; omega
  have oR : some R ≠ (V j).ownBlock := fun e => by have := h.far j hj R e.symm; omega
  have e1 := hr.grown.block E l oE
  have e2 := hr.grown.block R (by omega) oR
  have lv' : ∀ g, v'.ownBlock = some g → E < g := fun g hg => by have := (hm.lt g hg).1; omega
  have cv' : ∀ i, i < k → w1.cell? ⟨R, i * 2 + 1, none⟩ = some (V i) := fun i hi => (World.cell?_of_block (a := ⟨R, i * 2 + 1, none⟩) e2).trans (h.cv i hi)
  refine ⟨⟨?_, ?_, ?_, ?_, fun i hi => ?_, fun i hi => ?_, fun i hi => ?_, fun i i' hi hi' hne g hg => ?_, h.ne, h.low⟩, ⟨hr.grown.os, hr.grown.tape, hr.grown.output, by simpa using hr.grown.size, fun b hb hE hR hv => ?_, hr.at_⟩⟩
  · exact (World.cell?_setCell_far _ _ _ _ (by show R ≠ E; omega)).trans ((World.cell?_of_block (a := ⟨E, 0, none⟩) e1).trans h.c0)
  · rw [World.frozen?_setCell]; exact (World.frozen?_of_block (a := ⟨E, 0, none⟩) e1).trans h.f0
  · exact (World.cell?_setCell_far _ _ _ _ (by show R ≠ E; omega)).trans ((World.cell?_of_block (a := ⟨E, 1, none⟩) e1).trans h.c1)
  · exact (World.cell?_setCell_far _ _ _ _ (by show R ≠ E; omega)).trans ((World.cell?_of_block (a := ⟨E, 2, none⟩) e1).trans h.c2)
  · unfold upd
    by_cases e : i = j
    · subst e; rw [if_pos rfl]; exact World.cell?_setCell_same _ _ _ (cv' i hi)
    · rw [if_neg e]; exact (World.cell?_setCell_other _ _ _ _ (by simp [Ne.symm e])).trans (cv' i hi)
  · rw [World.frozen?_setCell]; exact (World.frozen?_of_block (a := ⟨R, i * 2 + 1, none⟩) e2).trans (h.fv i hi)
  · unfold upd
    by_cases e : i = j
    · subst e
      rw [if_pos rfl, if_pos rfl]
      exact hm.same fun g hg => Below.heap_setCell _ _ _ _ (by have := lv' g hg; show g ≠ R; omega)
    · rw [if_neg e, if_neg e]
      refine (h.own i hi).same fun g hg => (Below.heap_setCell _ _ _ _ (by have := (h.far i hi g hg).1; show g ≠ R; omega)).trans (hr.grown.block g (h.far i hi g hg).2 (fun e' => h.apart i j hi hj e g hg e'.symm))
  · unfold upd at hg ⊢
    have new : ∀ i, i < k → i ≠ j → ∀ g, (V i).ownBlock = some g → v'.ownBlock ≠ some g := fun i hi hij g hg hg' => by
      rcases hr.at_ with a | a
      · rw [a] at hg'; exact h.apart i j hi hj hij g hg hg'
      · have := a g hg'; have := (h.far i hi g hg).2; omega
    by_cases e : i = j
    · rw [if_pos e] at hg
      rw [if_neg (fun e' => hne (e.trans e'.symm))]
      exact fun hg' => new i' hi' (fun e' => hne (e.trans e'.symm)) g hg' hg
    · rw [if_neg e] at hg
      by_cases e' : i' = j
      · rw [if_pos e']; exact new i hi e g hg
      · rw [if_neg e']; exact h.apart i i' hi hi' hne g hg
  · exact (Below.heap_setCell _ _ _ _ hR).trans (hr.grown.block b hb hv)
theorem Did.below {j : Nat} (h : Es N E R k lim now V X w) (hj : j < k) {v' : Value} (d : Did E R (V j) v' w w') {W : World} (hb : Below N W w) : Below N W w' := by
  have l := h.lt
  have r := h.ne
  have lo := h.low
  refine ⟨d.os.trans hb.os, d.tape.trans hb.tape, d.output.trans hb.output, Nat.le_trans hb.size d.size, fun b hbn => (d.block b (by omega) (by omega) (by omega) fun e => ?_).trans (hb.block b hbn)⟩
  have := h.far j hj b e.symm
  omega
end
end Go.Proofs.Ytafedpphecfgnaa
