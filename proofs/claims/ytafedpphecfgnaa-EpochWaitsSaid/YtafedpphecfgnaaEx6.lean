/-
  The law EpochWaits: what the law itself keeps (two pairs of lists), beside the epochs; no condition.
-/
import Derived.Test.YtafedpphecfgnaaEx4
import Derived.Test.YtafedpphecfgnaaEx5
import Derived.Test.YtafedpphecfgnaaFr
import Derived.Test.YtafedpphecfgnaaAnyT
namespace Go.Proofs.Ytafedpphecfgnaa
open Go.RowKit Go.WideShapes Go.ChangeShapes
set_option linter.all false
def nums (l : List Int) : List Value := l.map (.int .i64)
theorem nums_append (a b : List Int) : nums (a ++ b) = nums a ++ nums b := List.map_append
/-- Where the row i of four stands: two in B1, two in B2. -/
def Tat (B1 B2 i : Nat) : Addr := if i < 2 then ⟨B1, i, none⟩ else ⟨B2, i - 2, none⟩
/-- Four rows of numbers: the cells hold C, the rows that are owned are U. -/
structure Tb (S B1 B2 : Nat) (C U : Nat → Value) (Y : Nat → List Int) (w : World) : Prop where
  cv : ∀ i, i < 4 → w.cell? (Tat B1 B2 i) = some (C i)
  fv : ∀ i, i < 4 → w.frozen? (Tat B1 B2 i) = false
  own : ∀ i, i < 4 → Mid w S 3 1 (U i) (Y i).length (nums (Y i))
  apart : ∀ i j, i < 4 → j < 4 → i ≠ j → ∀ g, (U i).ownBlock = some g → (U j).ownBlock ≠ some g
  b1 : B1 < S
  b2 : B2 < S
  ne : B1 ≠ B2
  sz : S ≤ w.heap.size
section
variable {S B1 B2 : Nat} {C U : Nat → Value} {Y : Nat → List Int} {w w' : World}
theorem Tat_block (h1 : B1 < S) (h2 : B2 < S) (i : Nat) : (Tat B1 B2 i).block < S := by unfold Tat; split <;> assumption
theorem Tb.own_lt (h : Tb S B1 B2 C U Y w) (i : Nat) (hi : i < 4) : ∀ g, (U i).ownBlock = some g → S ≤ g ∧ g < w.heap.size := (h.own i hi).lt
theorem Tb.same (h : Tb S B1 B2 C U Y w) (hs : w.heap.size ≤ w'.heap.size) (hb : ∀ b, b < w.heap.size → (b = B1 ∨ b = B2 ∨ ∃ i, i < 4 ∧ (U i).ownBlock = some b) → w'.heap[b]? = w.heap[b]?) : Tb S B1 B2 C U Y w' := by
  have s := h.sz
  have q1 := h.b1
  have q2 := h.b2
  have eb : ∀ i, (Tat B1 B2 i).block < w.heap.size ∧ w'.heap[(Tat B1 B2 i).block]? = w.heap[(Tat B1 B2 i).block]? := fun i => by
    unfold Tat
    split
    · exact ⟨by show B1 < _; omega, hb B1 (by omega) (.inl rfl)⟩
    · exact ⟨by show B2 < _; omega, hb B2 (by omega) (.inr (.inl rfl))⟩
  exact ⟨fun i hi => (World.cell?_of_block (eb i).2).trans (h.cv i hi), fun i hi => (World.frozen?_of_block (eb i).2).trans (h.fv i hi), fun i hi => (h.own i hi).same fun g hg => hb g (h.own_lt i hi g hg).2 (.inr (.inr ⟨i, hi, hg⟩)), h.apart, h.b1, h.b2, h.ne, by omega⟩
theorem Tb.below (h : Tb S B1 B2 C U Y w) (hb : Below w.heap.size w w') : Tb S B1 B2 C U Y w' := h.same hb.size fun b hl _ => hb.block b hl
/-- The row i was appended to. -/
theorem Tb.ran (h : Tb S B1 B2 C U Y w) (i : Nat) (hi : i < 4) {v' : Value} {ys : List Int} (hr : Ran (U i) v' w w') (hm : Mid w' S 3 1 v' ys.length (nums ys)) : Tb S B1 B2 C (upd U i v') (upd Y i ys) w' := by
  have s := h.sz
  have q1 := h.b1
  have q2 := h.b2
  have nb : ∀ b, b < S → some b ≠ (U i).ownBlock := fun b hb e => by have := (h.own_lt i hi b e.symm).1; omega
  have eb : ∀ j, w'.heap[(Tat B1 B2 j).block]? = w.heap[(Tat B1 B2 j).block]? := fun j => by
    have := Tat_block q1 q2 j
    exact hr.grown.block _ (by omega) (nb _ this)
  have new : ∀ j, j < 4 → j ≠ i → ∀ g, (U j).ownBlock = some g → v'.ownBlock ≠ some g := fun j hj hij g hg hg' => by
    rcases hr.at_ with a | a
    · rw [a] at hg'; exact h.apart j i hj hi hij g hg hg'
    · have := a g hg'; have := (h.own_lt j hj g hg).2; omega
  refine ⟨fun j hj => (World.cell?_of_block (eb j)).trans (h.cv j hj), fun j hj => (World.frozen?_of_block (eb j)).trans (h.fv j hj), fun j hj => ?_, fun j j' hj hj' hne g hg => ?_, q1, q2, h.ne, Nat.le_trans s hr.grown.size⟩
  · unfold upd
    by_cases e : j = i
    · rw [if_pos e, if_pos e]; exact hm
    · rw [if_neg e, if_neg e]
      exact (h.own j hj).same fun g hg => hr.grown.block g (h.own_lt j hj g hg).2 fun e' => h.apart j i hj hi e g hg e'.symm
  · unfold upd at hg ⊢
    by_cases e : j = i
    · rw [if_pos e] at hg
      rw [if_neg (fun e' => hne (e.trans e'.symm))]
      exact fun hg' => new j' hj' (fun e' => hne (e.trans e'.symm)) g hg' hg
    · rw [if_neg e] at hg
      by_cases e' : j' = i
      · rw [if_pos e']; exact new j hj e g hg
      · rw [if_neg e']; exact h.apart j j' hj hj' hne g hg
theorem Tat_or (i : Nat) : (Tat B1 B2 i).block = B1 ∨ (Tat B1 B2 i).block = B2 := by unfold Tat; split; exact .inl rfl; exact .inr rfl
theorem Tat_inj (ne : B1 ≠ B2) {i j : Nat} (hij : i ≠ j) : Tat B1 B2 i ≠ Tat B1 B2 j := by
  unfold Tat
  split <;> split <;> simp <;> omega
/-- The cell i was stored. -/
theorem Tb.store (h : Tb S B1 B2 C U Y w) (i : Nat) (hi : i < 4) (v : Value) : Tb S B1 B2 (upd C i v) U Y (w.setCell (Tat B1 B2 i) v) := by
  have s := h.sz
  have tb := Tat_block h.b1 h.b2 i
  refine ⟨fun j hj => ?_, fun j hj => by rw [World.frozen?_setCell]; exact h.fv j hj, fun j hj => (h.own j hj).same fun g hg => Below.heap_setCell _ _ _ _ (by have := (h.own_lt j hj g hg).1; omega), h.apart, h.b1, h.b2, h.ne, by simpa using s⟩
  unfold upd
  by_cases e : j = i
  · subst e; rw [if_pos rfl]; exact World.cell?_setCell_same _ _ _ (h.cv j hj)
  · rw [if_neg e]
    refine (World.cell?_setCell_other _ _ _ _ ?_).trans (h.cv j hj)
    exact Tat_inj h.ne (Ne.symm e)
/-- The row i is cut (its cell is stored later). -/
theorem Tb.row (h : Tb S B1 B2 C U Y w) (i : Nat) (hi : i < 4) {v' : Value} {ys : List Int} (hv : v'.ownBlock = (U i).ownBlock) (hm : Mid w S 3 1 v' ys.length (nums ys)) : Tb S B1 B2 C (upd U i v') (upd Y i ys) w :=
  h.ran i hi ⟨World.grownBy.refl w _, .inl hv⟩ hm
end
/-- All of it: the epochs E, the law's lists at B1, B2. -/
structure Wt (W : World) (E R S B1 B2 : Nat) (lim now : Int) (V : Nat → Value) (X : Nat → List (Int × Int)) (C U : Nat → Value) (Y : Nat → List Int) (w : World) : Prop where
  es : Es W.heap.size E R 2 lim now V X w
  tb : Tb S B1 B2 C U Y w
  cross : ∀ j i, j < 2 → i < 4 → ∀ g, (V j).ownBlock = some g → (U i).ownBlock ≠ some g
  far : ∀ j, j < 2 → (V j).ownBlock ≠ some B1 ∧ (V j).ownBlock ≠ some B2
  e1 : E < B1
  e2 : E < B2
  bel : Below W.heap.size W w
section
variable {W : World} {E R S B1 B2 : Nat} {lim now : Int} {V : Nat → Value} {X : Nat → List (Int × Int)} {C U : Nat → Value} {Y : Nat → List Int} {w w' : World}
theorem Wt.below (h : Wt W E R S B1 B2 lim now V X C U Y w) (hb : Below w.heap.size w w') : Wt W E R S B1 B2 lim now V X C U Y w' := ⟨h.es.below hb, h.tb.below hb, h.cross, h.far, h.e1, h.e2, h.bel.trans (hb.mono h.bel.size)⟩
theorem Wt.setNow (h : Wt W E R S B1 B2 lim now V X C U Y w) (m : Int) : Wt W E R S B1 B2 lim m V X C U Y (w.setCell ⟨E, 0, none⟩ (.int .i64 m)) := by
  have q1 := h.e1
  have q2 := h.e2
  have q3 := h.tb.b1
  refine ⟨h.es.setNow m, h.tb.same (by simp) fun b _ hb => Below.heap_setCell _ _ _ _ ?_, h.cross, h.far, q1, q2, h.bel.setCell (by have := h.es.ne; have := h.es.low; show W.heap.size ≤ E; omega) _⟩
  rcases hb with rfl | rfl | ⟨i, hi, hb⟩
  · show b ≠ E; omega
  · show b ≠ E; omega
  · have := (h.tb.own_lt i hi b hb).1
    show b ≠ E; omega
/-- Behind a call on the list of client j. -/
theorem Wt.did (h : Wt W E R S B1 B2 lim now V X C U Y w) (j : Nat) (hj : j < 2) {v' : Value} {xs : List (Int × Int)} (he : Es W.heap.size E R 2 lim now (upd V j v') (upd X j xs) w') (d : Did E R (V j) v' w w') : Wt W E R S B1 B2 lim now (upd V j v') (upd X j xs) C U Y w' := by
  have q1 := h.e1
  have q2 := h.e2
  have q3 := h.tb.b1
  have q4 := h.tb.b2
  have q5 := h.tb.sz
  have q6 := h.es.ne
  have f := h.far j hj
  refine ⟨he, h.tb.same d.size fun b hl hb => d.block b hl ?_ ?_ ?_, fun j' i hj' hi g hg => ?_, fun j' hj' => ?_, q1, q2, d.below h.es hj h.bel⟩
  · rcases hb with rfl | rfl | ⟨i, hi, hb⟩
    · omega
    · omega
    · have := (h.tb.own_lt i hi b hb).1; omega
  · rcases hb with rfl | rfl | ⟨i, hi, hb⟩
    · omega
    · omega
    · have := (h.tb.own_lt i hi b hb).1; omega
  · rcases hb with rfl | rfl | ⟨i, hi, hb⟩
    · exact fun e => f.1 e.symm
    · exact fun e => f.2 e.symm
    · exact fun e => h.cross j i hj hi b e.symm hb
  · unfold upd at hg
    by_cases e : j' = j
    · rw [if_pos e] at hg
      rcases d.at_ with a | a
      · rw [a] at hg; exact h.cross j i hj hi g hg
      · intro hu; have := a g hg; have := (h.tb.own_lt i hi g hu).2; omega
    · rw [if_neg e] at hg; exact h.cross j' i hj' hi g hg
  · unfold upd
    by_cases e : j' = j
    · rw [if_pos e]
      rcases d.at_ with a | a
      · rw [a]; exact f
      · exact ⟨fun e => by have := a _ e; omega, fun e => by have := a _ e; omega⟩
    · rw [if_neg e]; exact h.far j' hj'
/-- Behind an append onto the row i. -/
theorem Wt.ran (h : Wt W E R S B1 B2 lim now V X C U Y w) (i : Nat) (hi : i < 4) {v' : Value} {ys : List Int} (hr : Ran (U i) v' w w') (hm : Mid w' S 3 1 v' ys.length (nums ys)) : Wt W E R S B1 B2 lim now V X C (upd U i v') (upd Y i ys) w' := by
  have q1 := h.e1
  have q3 := h.tb.b1
  have q5 := h.tb.sz
  have q6 := h.es.ne
  have q7 := h.es.low
  have lw := h.es.lt
  have nb : ∀ b, b < S → some b ≠ (U i).ownBlock := fun b hb e => by have := (h.tb.own_lt i hi b e.symm).1; omega
  refine ⟨⟨?_, ?_, ?_, ?_, fun j hj => ?_, fun j hj => ?_, fun j hj => ?_, h.es.apart, q6, q7⟩, h.tb.ran i hi hr hm, fun j i' hj hi' g hg => ?_, h.far, h.e1, h.e2, h.bel.grown hr.grown h.bel.size fun g hg => by have := (h.tb.own_lt i hi g hg).1; omega⟩
  · exact (hr.grown.cell_far _ (by show E < _; omega) (nb E (by omega))).trans h.es.c0
  · exact (hr.grown.frozen_far _ (by show E < _; omega) (nb E (by omega))).trans h.es.f0
  · exact (hr.grown.cell_far _ (by show E < _; omega) (nb E (by omega))).trans h.es.c1
  · exact (hr.grown.cell_far _ (by show E < _; omega) (nb E (by omega))).trans h.es.c2
  · exact (hr.grown.cell_far _ (by show R < _; omega) (nb R (by omega))).trans (h.es.cv j hj)
  · exact (hr.grown.frozen_far _ (by show R < _; omega) (nb R (by omega))).trans (h.es.fv j hj)
  · exact (h.es.own j hj).same fun g hg => hr.grown.block g (h.es.far j hj g hg).2 fun e => h.cross j i hj hi g hg e.symm
  · unfold upd
    by_cases e : i' = i
    · rw [if_pos e]
      rcases hr.at_ with a | a
      · rw [a]; exact h.cross j i hj hi g hg
      · intro hu; have := a g hu; have := (h.es.far j hj g hg).2; omega
    · rw [if_neg e]; exact h.cross j i' hj hi' g hg
theorem Wt.store (h : Wt W E R S B1 B2 lim now V X C U Y w) (i : Nat) (hi : i < 4) (v : Value) : Wt W E R S B1 B2 lim now V X (upd C i v) U Y (w.setCell (Tat B1 B2 i) v) := by
  have q1 := h.e1
  have q2 := h.e2
  have q6 := h.es.ne
  have q7 := h.es.low
  have tE : (Tat B1 B2 i).block ≠ E := by have := Tat_or (B1 := B1) (B2 := B2) i; omega
  have tR : (Tat B1 B2 i).block ≠ R := by have := Tat_or (B1 := B1) (B2 := B2) i; omega
  have tW : W.heap.size ≤ (Tat B1 B2 i).block := by have := Tat_or (B1 := B1) (B2 := B2) i; omega
  have tV : ∀ j, j < 2 → ∀ g, (V j).ownBlock = some g → g ≠ (Tat B1 B2 i).block := fun j hj g hg e => by
    have f := h.far j hj
    rw [hg] at f
    unfold Tat at e
    split at e
    · exact f.1 (by rw [e])
    · exact f.2 (by rw [e])
  refine ⟨⟨?_, ?_, ?_, ?_, fun j hj => ?_, fun j hj => ?_, fun j hj => ?_, h.es.apart, q6, q7⟩, h.tb.store i hi v, h.cross, h.far, q1, q2, h.bel.setCell tW _⟩
  · exact (World.cell?_setCell_far _ _ _ _ tE).trans h.es.c0
  · rw [World.frozen?_setCell]; exact h.es.f0
  · exact (World.cell?_setCell_far _ _ _ _ tE).trans h.es.c1
  · exact (World.cell?_setCell_far _ _ _ _ tE).trans h.es.c2
  · exact (World.cell?_setCell_far _ _ _ _ tR).trans (h.es.cv j hj)
  · rw [World.frozen?_setCell]; exact h.es.fv j hj
  · exact (h.es.own j hj).same fun g hg => Below.heap_setCell _ _ _ _ (tV j hj g hg)
end
end Go.Proofs.Ytafedpphecfgnaa
