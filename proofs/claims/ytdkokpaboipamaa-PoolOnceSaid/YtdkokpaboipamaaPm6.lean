/-
  The law PoolOnce at any calls; no condition.
-/
import Derived.Test.YtdkokpaboipamaaPm5
import Derived.Test.YtdkokpaboipamaaFr
namespace Go.Proofs.Ytdkokpaboipamaa
open Go.RowKit Go.WideShapes Go.ChangeShapes
set_option linter.all false
section
variable {N P I k Q : Nat} {v v' : Value} {xs : List Int} {w w' : World}
theorem St.same (h : St N P I k v xs w) (hb : ∀ b, b ≠ Q → w'.heap[b]? = w.heap[b]?) (h1 : Q ≠ P) (h2 : Q ≠ I) (h3 : some Q ≠ v.ownBlock) : St N P I k v xs w' := by
  have eP := hb P (Ne.symm h1)
  have eI := hb I (Ne.symm h2)
  refine ⟨⟨(World.cell?_of_block eP).trans h.hp.cell, (World.frozen?_of_block eP).trans h.hp.free, h.hp.own.1, ?_⟩, (World.cell?_of_block eP).trans h.c1, fun j hj => (World.cell?_of_block (a := ⟨I, j, none⟩) eI).trans (h.row j hj),
    fun j hj => (World.frozen?_of_block (a := ⟨I, j, none⟩) eI).trans (h.frow j hj), h.hI, h.hN, h.heap, h.nodup, h.rng⟩
  rcases h.hp.own.2 with hn | ⟨g, cap, cur, hv, hgb, hgg, rest⟩
  · exact .inl hn
  · exact .inr ⟨g, cap, cur, hv, hgb, (hb g (fun e => h3 (by rw [hv, ← e]; rfl))).trans hgg, rest⟩
theorem St.drew (h : St N P I k v xs w) : St N P I k v xs w.drew := ⟨⟨h.hp.cell, h.hp.free, h.hp.own⟩, h.c1, h.row, h.frow, h.hI, h.hN, h.heap, h.nodup, h.rng⟩
/-- The array at Q tells which numbers are free. -/
structure Arr (Q : Nat) (xs : List Int) (w : World) : Prop where
  cell : ∀ j, j < 32 → w.cell? ⟨Q, j, none⟩ = some (.bool (decide ((j : Int) ∈ xs)))
  free : ∀ j, j < 32 → w.frozen? ⟨Q, j, none⟩ = false
theorem Arr.at_ (h : Arr Q xs w) (hb : w'.heap[Q]? = w.heap[Q]?) : Arr Q xs w' :=
  ⟨fun j hj => (World.cell?_of_block (a := ⟨Q, j, none⟩) hb).trans (h.cell j hj), fun j hj => (World.frozen?_of_block (a := ⟨Q, j, none⟩) hb).trans (h.free j hj)⟩
theorem Arr.set (h : Arr Q xs w) {ys : List Int} (m : Nat) (hm : m < 32) (b : Bool) (hb : decide ((m : Int) ∈ ys) = b) (ho : ∀ j : Nat, j ≠ m → (((j : Int) ∈ ys) ↔ ((j : Int) ∈ xs))) : Arr Q ys (w.setCell ⟨Q, m, none⟩ (.bool b)) := by
  refine ⟨fun j hj => ?_, fun j hj => by rw [World.frozen?_setCell]; exact h.free j hj⟩
  by_cases e : j = m
  · subst e; rw [World.cell?_setCell_same _ _ _ (h.cell j hj), hb]
  · rw [World.cell?_setCell_other _ _ _ _ (by simp [Ne.symm e]), h.cell j hj]
    congr 2
    simp [ho j e]
/-- All of PoolOnce's memory. -/
structure Once (W : World) (P Q : Nat) (v : Value) (xs : List Int) (w : World) : Prop where
  st : St W.heap.size P W.heap.size 32 v xs w
  arr : Arr Q xs w
  hq : P < Q
  far : some Q ≠ v.ownBlock
  bel : Below W.heap.size W w
theorem Once.lt {W : World} (h : Once W P Q v xs w) : Q < w.heap.size := World.block_lt_of_cell? w _ (h.arr.cell 0 (by omega))
theorem Once.same_q {W : World} (h : Once W P Q v xs w) (hk : Kept P W.heap.size v v' w w') : w'.heap[Q]? = w.heap[Q]? :=
  hk.block Q h.lt (by have := h.hq; omega) (by have := h.hq; have := h.st.hI; omega) h.far
theorem Once.step {W : World} (h : Once W P Q v xs w) (hk : Kept P W.heap.size v v' w w') {ys : List Int} (hs : St W.heap.size P W.heap.size 32 v' ys w') (m : Nat) (hm : m < 32) (b : Bool) (hb : decide ((m : Int) ∈ ys) = b)
    (ho : ∀ j : Nat, j ≠ m → (((j : Int) ∈ ys) ↔ ((j : Int) ∈ xs))) : Once W P Q v' ys (w'.setCell ⟨Q, m, none⟩ (.bool b)) := by
  have hq := h.hq
  have hI := h.st.hI
  have far' : some Q ≠ v'.ownBlock := fun e => h.far (hk.row Q h.lt e)
  have a1 := h.arr.at_ (h.same_q hk)
  exact ⟨hs.same (Q := Q) (fun b hb => Below.heap_setCell w' _ _ b hb) (by omega) (by omega) far', a1.set m hm b hb ho, hq, far',
    (hk.below h.st h.bel).setCell (by show W.heap.size ≤ Q; omega) _⟩
end
end Go.Proofs.Ytdkokpaboipamaa
