/-
  Cells at fixed places and rows of the call's own, side by side, each told by an index; no condition.
-/
import Derived.Test.YtafedpphecfgnaaMid
namespace Go.Proofs.Ytafedpphecfgnaa
open Go.RowKit
set_option linter.all false
/-- The function f, at j another. -/
def updA {ι α : Type} [DecidableEq ι] (f : ι → α) (j : ι) (a : α) : ι → α := fun i => if i = j then a else f i
theorem updA_at {ι α : Type} [DecidableEq ι] (f : ι → α) (j : ι) (a : α) : updA f j a j = a := if_pos rfl
theorem updA_ne {ι α : Type} [DecidableEq ι] (f : ι → α) (j i : ι) (a : α) (h : i ≠ j) : updA f j a i = f i := if_neg h
/-- The cells ad i (where ok) hold C i; the rows (where okr) are U r, which read Y r; all of it lies behind what W had, which is as it was. -/
structure Hp {ι κ : Type} (W : World) (ad : ι → Addr) (ok : ι → Prop) (okr : κ → Prop) (tz : κ → TypeId × Nat) (C : ι → Value) (U : κ → Value) (Y : κ → Nat × List Value) (w : World) : Prop where
  cv : ∀ i, ok i → w.cell? (ad i) = some (C i)
  fv : ∀ i, ok i → w.frozen? (ad i) = false
  own : ∀ r, okr r → Mid w W.heap.size (tz r).1 (tz r).2 (U r) (Y r).1 (Y r).2
  apart : ∀ r s, okr r → okr s → r ≠ s → ∀ g, (U r).ownBlock = some g → (U s).ownBlock ≠ some g
  off : ∀ i, ok i → ∀ r, okr r → (U r).ownBlock ≠ some (ad i).block
  inj : ∀ i j, ok i → ok j → ad i = ad j → i = j
  lo : ∀ i, ok i → W.heap.size ≤ (ad i).block
  bel : Below W.heap.size W w
section
variable {ι κ : Type} [DecidableEq ι] [DecidableEq κ] {W w w' : World} {ad : ι → Addr} {ok : ι → Prop} {okr : κ → Prop} {tz : κ → TypeId × Nat} {C C' : ι → Value} {U U' : κ → Value} {Y Y' : κ → Nat × List Value}
theorem Hp.lt (h : Hp W ad ok okr tz C U Y w) (i : ι) (hi : ok i) : (ad i).block < w.heap.size := World.block_lt_of_cell? _ _ (h.cv i hi)
theorem Hp.own_lt (h : Hp W ad ok okr tz C U Y w) (r : κ) (hr : okr r) : ∀ g, (U r).ownBlock = some g → W.heap.size ≤ g ∧ g < w.heap.size := (h.own r hr).lt
theorem Hp.same (h : Hp W ad ok okr tz C U Y w) (hB : Below W.heap.size W w') (hb : ∀ b, ((∃ i, ok i ∧ (ad i).block = b) ∨ ∃ r, okr r ∧ (U r).ownBlock = some b) → w'.heap[b]? = w.heap[b]?) : Hp W ad ok okr tz C U Y w' :=
  ⟨fun i hi => (World.cell?_of_block (hb _ (.inl ⟨i, hi, rfl⟩))).trans (h.cv i hi), fun i hi => (World.frozen?_of_block (hb _ (.inl ⟨i, hi, rfl⟩))).trans (h.fv i hi), fun r hr => (h.own r hr).same fun g hg => hb g (.inr ⟨r, hr, hg⟩), h.apart, h.off, h.inj, h.lo, hB⟩
theorem Hp.below (h : Hp W ad ok okr tz C U Y w) (hb : Below w.heap.size w w') : Hp W ad ok okr tz C U Y w' :=
  h.same (h.bel.trans (hb.mono h.bel.size)) fun b hx => hb.block b (by
    rcases hx with ⟨i, hi, rfl⟩ | ⟨r, hr, hg⟩
    · exact h.lt i hi
    · exact (h.own_lt r hr b hg).2)
theorem Hp.drew (h : Hp W ad ok okr tz C U Y w) : Hp W ad ok okr tz C U Y w.drew := h.below ((Below.refl _ _).drew)
/-- The same cells and rows, told otherwise. -/
theorem Hp.tell (h : Hp W ad ok okr tz C U Y w) (hC : ∀ i, ok i → C' i = C i) (hU : ∀ r, okr r → U' r = U r) (hY : ∀ r, okr r → Y' r = Y r) : Hp W ad ok okr tz C' U' Y' w :=
  ⟨fun i hi => by rw [hC i hi]; exact h.cv i hi, h.fv, fun r hr => by rw [hU r hr, hY r hr]; exact h.own r hr, fun r s hr hs hne g => by rw [hU r hr, hU s hs]; exact h.apart r s hr hs hne g, fun i hi r hr => by rw [hU r hr]; exact h.off i hi r hr, h.inj, h.lo, h.bel⟩
/-- A cell is stored. -/
theorem Hp.store (h : Hp W ad ok okr tz C U Y w) (i : ι) (hi : ok i) (v : Value) : Hp W ad ok okr tz (updA C i v) U Y (w.setCell (ad i) v) := by
  refine ⟨fun j hj => ?_, fun j hj => by rw [World.frozen?_setCell]; exact h.fv j hj, fun r hr => (h.own r hr).same fun g hg => Below.heap_setCell _ _ _ _ (fun e => h.off i hi r hr (by rw [hg, e])), h.apart, h.off, h.inj, h.lo, h.bel.setCell (h.lo i hi) _⟩
  unfold updA
  by_cases e : j = i
  · subst e; rw [if_pos rfl]; exact World.cell?_setCell_same _ _ _ (h.cv j hj)
  · rw [if_neg e]
    exact (World.cell?_setCell_other _ _ _ _ (fun e' => e (h.inj j i hj hi e'.symm))).trans (h.cv j hj)
/-- A row was appended to. -/
theorem Hp.ran (h : Hp W ad ok okr tz C U Y w) (r : κ) (hr : okr r) {v' : Value} {n : Nat} {ys : List Value} (hn : Ran (U r) v' w w') (hm : Mid w' W.heap.size (tz r).1 (tz r).2 v' n ys) : Hp W ad ok okr tz C (updA U r v') (updA Y r (n, ys)) w' := by
  have hb : ∀ b, b < w.heap.size → (U r).ownBlock ≠ some b → w'.heap[b]? = w.heap[b]? := fun b hb hne => hn.grown.block b hb (fun e => hne e.symm)
  have eb : ∀ i, ok i → w'.heap[(ad i).block]? = w.heap[(ad i).block]? := fun i hi => hb _ (h.lt i hi) (h.off i hi r hr)
  have fresh : ∀ g, v'.ownBlock = some g → (U r).ownBlock = some g ∨ w.heap.size ≤ g := fun g hg => by
    rcases hn.at_ with a | a
    · exact .inl (by rw [← a]; exact hg)
    · exact .inr (a g hg)
  refine ⟨fun i hi => (World.cell?_of_block (eb i hi)).trans (h.cv i hi), fun i hi => (World.frozen?_of_block (eb i hi)).trans (h.fv i hi), fun s hs => ?_, fun s t hs ht hne g hg => ?_, fun i hi s hs => ?_, h.inj, h.lo, h.bel.grown hn.grown h.bel.size fun g hg => (h.own_lt r hr g hg).1⟩
  · unfold updA
    by_cases e : s = r
    · subst e; rw [if_pos rfl, if_pos rfl]; exact hm
    · rw [if_neg e, if_neg e]
      exact (h.own s hs).same fun g hg => hb g (h.own_lt s hs g hg).2 (h.apart s r hs hr e g hg)
  · unfold updA at hg ⊢
    by_cases e : s = r
    · rw [if_pos e] at hg
      have e' : ¬ t = r := fun e' => hne (e.trans e'.symm)
      rw [if_neg e']
      intro ht'
      rcases fresh g hg with a | a
      · exact h.apart r t hr ht (fun e2 => e' e2.symm) g a ht'
      · have := (h.own_lt t ht g ht').2; omega
    · rw [if_neg e] at hg
      by_cases e' : t = r
      · rw [if_pos e']
        intro ht'
        rcases fresh g ht' with a | a
        · exact h.apart s r hs hr e g hg a
        · have := (h.own_lt s hs g hg).2; omega
      · rw [if_neg e']; exact h.apart s t hs ht hne g hg
  · unfold updA
    by_cases e : s = r
    · rw [if_pos e]
      intro e2
      rcases fresh _ e2 with a | a
      · exact h.off i hi r hr a
      · have := h.lt i hi; omega
    · rw [if_neg e]; exact h.off i hi s hs
/-- A row is another one of the same block (a cut). -/
theorem Hp.row (h : Hp W ad ok okr tz C U Y w) (r : κ) (hr : okr r) {v' : Value} {n : Nat} {ys : List Value} (hv : v'.ownBlock = (U r).ownBlock) (hm : Mid w W.heap.size (tz r).1 (tz r).2 v' n ys) : Hp W ad ok okr tz C (updA U r v') (updA Y r (n, ys)) w :=
  h.ran r hr ⟨World.grownBy.refl w _, .inl hv⟩ hm
end
end Go.Proofs.Ytafedpphecfgnaa
