/-
  The arena told by lists: its slots, its pools; no condition.
-/
import Derived.Test.YtndmpdpmfieacaaPlM
import Derived.Test.YtndmpdpmfieacaaRd
import Derived.Test.YtndmpdpmfieacaaWd
namespace Go.Proofs.Ytndmpdpmfieacaa
open Go.RowKit Go.WideShapes Go.ChangeShapes
set_option linter.all false
theorem cell_of {w : World} {b : Nat} {cs : Array Value} {T : TypeId} {fr : Nat × Nat} (hb : w.heap[b]? = some (.cells cs T fr)) (j : Nat) : w.cell? ⟨b, j, none⟩ = cs[j]? := by simp [World.cell?, hb]
theorem frozen_of {w : World} {b : Nat} {cs : Array Value} {T : TypeId} (hb : w.heap[b]? = some (.cells cs T (0, 0))) (j : Nat) : w.frozen? ⟨b, j, none⟩ = false := by simp [World.frozen?, hb]
theorem lt_of_heap {w : World} {b : Nat} {o : Obj} (h : w.heap[b]? = some o) : b < w.heap.size := by
  rcases Nat.lt_or_ge b w.heap.size with h' | h'
  · exact h'
  · rw [Array.getElem?_eq_none h'] at h; cases h
/-- A slot: its class, its generation, whether it is live, where its words lie, its words. -/
structure Sl where
  cls : Nat
  gen : Nat
  live : Bool
  blk : Nat
  ws : List Int
def dS : Sl := ⟨0, 1, false, 0, []⟩
def szN : Nat → Nat
  | 0 => 8
  | 1 => 12
  | 2 => 24
  | 3 => 88
  | 4 => 264
  | _ => 0
def wv (l : List Int) : List Value := l.map (Value.int .u64)
theorem wv_len (l : List Int) : (wv l).length = l.length := by simp [wv]
theorem szN_le (c : Nat) : szN c ≤ 264 := by unfold szN; split <;> omega
theorem szN_pos {c : Nat} (h : c < 5) : 8 ≤ szN c := by
  have : c = 0 ∨ c = 1 ∨ c = 2 ∨ c = 3 ∨ c = 4 := by omega
  rcases this with rfl | rfl | rfl | rfl | rfl <;> decide
theorem getD_set {sl : List Sl} {i : Nat} (hi : i < sl.length) (s : Sl) (j : Nat) : (sl.set i s).getD j dS = if j = i then s else sl.getD j dS := by
  rw [List.getD_eq_getElem?_getD, List.getD_eq_getElem?_getD, List.getElem?_set]
  by_cases h : i = j
  · subst h; simp [hi]
  · rw [if_neg h, if_neg (Ne.symm h)]
theorem St.same {N P I k : Nat} {v : Value} {xs : List Int} {w w' : World} (h : St N P I k v xs w) (hP : w'.heap[P]? = w.heap[P]?) (hI : w'.heap[I]? = w.heap[I]?) (hv : ∀ g, v.ownBlock = some g → w'.heap[g]? = w.heap[g]?) : St N P I k v xs w' := by
  refine ⟨⟨(World.cell?_of_block (a := ⟨P, 0, none⟩) hP).trans h.hp.cell, (World.frozen?_of_block (a := ⟨P, 0, none⟩) hP).trans h.hp.free, h.hp.own.1, ?_⟩, (World.cell?_of_block (a := ⟨P, 1, none⟩) hP).trans h.c1, fun j hj => (World.cell?_of_block (a := ⟨I, j, none⟩) hI).trans (h.row j hj), fun j hj => (World.frozen?_of_block (a := ⟨I, j, none⟩) hI).trans (h.frow j hj), h.hI, h.hN, h.heap, h.nodup, h.rng⟩
  rcases h.hp.own.2 with hn | ⟨g, cap, cur, e, hgb, hgg, rest⟩
  · exact .inl hn
  · exact .inr ⟨g, cap, cur, e, hgb, (hv g (by rw [e]; rfl)).trans hgg, rest⟩
theorem St.ltP {N P I k : Nat} {v : Value} {xs : List Int} {w : World} (h : St N P I k v xs w) : P < w.heap.size := World.block_lt_of_cell? w _ h.hp.cell
theorem St.ltI {N P I k : Nat} {v : Value} {xs : List Int} {w : World} (h : St N P I k v xs w) : I < w.heap.size := Nat.lt_trans h.hI h.ltP
theorem St.ltv {N P I k : Nat} {v : Value} {xs : List Int} {w : World} (h : St N P I k v xs w) : ∀ g, v.ownBlock = some g → P < g ∧ g < w.heap.size := fun g hg => h.hp.own.lt g hg
/-- The slots' cells. -/
structure SRow (w : World) (S : Nat) (sl : List Sl) : Prop where
  ex : ∃ cs, w.heap[S]? = some (.cells cs 114 (0, 0))
  c0 : ∀ i, i < sl.length → w.cell? ⟨S, i * 4, none⟩ = some (.int .i64 ((sl.getD i dS).cls : Nat))
  c1 : ∀ i, i < sl.length → w.cell? ⟨S, i * 4 + 1, none⟩ = some (.int .i64 ((sl.getD i dS).gen : Nat))
  c2 : ∀ i, i < sl.length → w.cell? ⟨S, i * 4 + 2, none⟩ = some (.bool (sl.getD i dS).live)
  c3 : ∀ i, i < sl.length → w.cell? ⟨S, i * 4 + 3, none⟩ = some (.slice (some ⟨(sl.getD i dS).blk, 0, none⟩) (szN (sl.getD i dS).cls) (szN (sl.getD i dS).cls))
theorem SRow.same {w w' : World} {S : Nat} {sl : List Sl} (h : SRow w S sl) (hb : w'.heap[S]? = w.heap[S]?) : SRow w' S sl :=
  ⟨by rw [hb]; exact h.ex, fun i hi => (World.cell?_of_block (a := ⟨S, i * 4, none⟩) hb).trans (h.c0 i hi), fun i hi => (World.cell?_of_block (a := ⟨S, i * 4 + 1, none⟩) hb).trans (h.c1 i hi),
    fun i hi => (World.cell?_of_block (a := ⟨S, i * 4 + 2, none⟩) hb).trans (h.c2 i hi), fun i hi => (World.cell?_of_block (a := ⟨S, i * 4 + 3, none⟩) hb).trans (h.c3 i hi)⟩
theorem SRow.fr {w : World} {S : Nat} {sl : List Sl} (h : SRow w S sl) (j : Nat) : w.frozen? ⟨S, j, none⟩ = false := by
  obtain ⟨cs, hc⟩ := h.ex
  exact frozen_of hc j
theorem SRow.lt {w : World} {S : Nat} {sl : List Sl} (h : SRow w S sl) : S < w.heap.size := by
  obtain ⟨cs, hc⟩ := h.ex
  exact lt_of_heap hc
theorem ex_setCell {w : World} {S j : Nat} {u : Value} (h : ∃ cs, w.heap[S]? = some (.cells cs 114 (0, 0))) : ∃ cs, (w.setCell ⟨S, j, none⟩ u).heap[S]? = some (.cells cs 114 (0, 0)) := by
  obtain ⟨cs, hc⟩ := h
  exact ⟨_, heap_setCell_same w S j cs 114 u hc⟩
/-- A slot becomes live, or is so no more. -/
theorem SRow.setLive {w : World} {S : Nat} {sl : List Sl} (h : SRow w S sl) {i : Nat} (hi : i < sl.length) (b : Bool) : SRow (w.setCell ⟨S, i * 4 + 2, none⟩ (.bool b)) S (sl.set i { sl.getD i dS with live := b }) := by
  refine ⟨ex_setCell h.ex, ?_, ?_, ?_, ?_⟩
  all_goals
    intro j hj
    rw [List.length_set] at hj
    rw [getD_set hi]
  · rw [World.cell?_setCell_other _ _ _ _ (by simp <;> omega), h.c0 j hj]
    split <;> simp [*]
  · rw [World.cell?_setCell_other _ _ _ _ (by simp <;> omega), h.c1 j hj]
    split <;> simp [*]
  · by_cases e : j = i
    · subst e
      rw [if_pos rfl, World.cell?_setCell_same _ _ _ (h.c2 j hj)]
    · rw [if_neg e, World.cell?_setCell_other _ _ _ _ (by simp <;> omega), h.c2 j hj]
  · rw [World.cell?_setCell_other _ _ _ _ (by simp <;> omega), h.c3 j hj]
    split <;> simp [*]
/-- A slot's next generation. -/
theorem SRow.setGen {w : World} {S : Nat} {sl : List Sl} (h : SRow w S sl) {i : Nat} (hi : i < sl.length) (g : Nat) : SRow (w.setCell ⟨S, i * 4 + 1, none⟩ (.int .i64 (g : Nat))) S (sl.set i { sl.getD i dS with gen := g }) := by
  refine ⟨ex_setCell h.ex, ?_, ?_, ?_, ?_⟩
  all_goals
    intro j hj
    rw [List.length_set] at hj
    rw [getD_set hi]
  · rw [World.cell?_setCell_other _ _ _ _ (by simp <;> omega), h.c0 j hj]
    split <;> simp [*]
  · by_cases e : j = i
    · subst e
      rw [if_pos rfl, World.cell?_setCell_same _ _ _ (h.c1 j hj)]
    · rw [if_neg e, World.cell?_setCell_other _ _ _ _ (by simp <;> omega), h.c1 j hj]
  · rw [World.cell?_setCell_other _ _ _ _ (by simp <;> omega), h.c2 j hj]
    split <;> simp [*]
  · rw [World.cell?_setCell_other _ _ _ _ (by simp <;> omega), h.c3 j hj]
    split <;> simp [*]
/-- Rows agree where the cells do. -/
theorem SRow.ws {w : World} {S : Nat} {sl : List Sl} (h : SRow w S sl) {i : Nat} (hi : i < sl.length) (l : List Int) : SRow w S (sl.set i { sl.getD i dS with ws := l }) := by
  refine ⟨h.ex, ?_, ?_, ?_, ?_⟩
  all_goals
    intro j hj
    rw [List.length_set] at hj
    rw [getD_set hi]
  · rw [h.c0 j hj]; split <;> simp [*]
  · rw [h.c1 j hj]; split <;> simp [*]
  · rw [h.c2 j hj]; split <;> simp [*]
  · rw [h.c3 j hj]; split <;> simp [*]
/-- Which blocks lie apart. -/
structure Sep (q : Nat) (sl : List Sl) (P I : Nat → Nat) (V : Nat → Value) : Prop where
  b1 : ∀ i j, i < sl.length → j < sl.length → i ≠ j → (sl.getD i dS).blk ≠ (sl.getD j dS).blk
  b2 : ∀ i c, i < sl.length → c < q → (sl.getD i dS).blk ≠ P c ∧ (sl.getD i dS).blk ≠ I c ∧ (V c).ownBlock ≠ some (sl.getD i dS).blk
  p1 : ∀ c d, c < q → d < q → c ≠ d → P c ≠ P d ∧ I c ≠ I d ∧ P c ≠ I d ∧ (V c).ownBlock ≠ some (P d) ∧ (V c).ownBlock ≠ some (I d) ∧ (∀ g, (V c).ownBlock = some g → (V d).ownBlock ≠ some g)
def pv (q : Nat) (P : Nat → Nat) (c : Nat) : Value := .pointer (if c < q then some ⟨P c, 0, none⟩ else none)
/-- The arena in the box B, its slots in S; q pools are there, of k numbers each. -/
structure Ar (N B S k q : Nat) (sl : List Sl) (P I : Nat → Nat) (V : Nat → Value) (xs : Nat → List Int) (w : World) : Prop where
  box : w.heap[B]? = some (.cells #[.slice (some ⟨S, 0, none⟩) sl.length k, pv q P 0, pv q P 1, pv q P 2, pv q P 3, pv q P 4] 110 (0, 0))
  NS : N ≤ S
  SB : S < B
  row : SRow w S sl
  wds : ∀ i, i < sl.length → w.heap[(sl.getD i dS).blk]? = some (.cells (wv (sl.getD i dS).ws).toArray 35 (0, 0)) ∧ (sl.getD i dS).ws.length = szN (sl.getD i dS).cls ∧ (sl.getD i dS).cls < 5 ∧ B < (sl.getD i dS).blk
  pl : ∀ c, c < q → St (B + 1) (P c) (I c) k (V c) (xs c) w
  sep : Sep q sl P I V
section
variable {N B S k q : Nat} {sl : List Sl} {P I : Nat → Nat} {V : Nat → Value} {xs : Nat → List Int} {w w' : World}
theorem Ar.ltB (h : Ar N B S k q sl P I V xs w) : B < w.heap.size := lt_of_heap h.box
theorem Ar.Ige (h : Ar N B S k q sl P I V xs w) {c : Nat} (hc : c < q) : B < I c ∧ I c < P c ∧ P c < w.heap.size :=
  ⟨(h.pl c hc).hN, (h.pl c hc).hI, (h.pl c hc).ltP⟩
/-- The blocks that it holds. -/
def Foot (B S q : Nat) (sl : List Sl) (P I : Nat → Nat) (V : Nat → Value) (b : Nat) : Prop :=
  b = B ∨ b = S ∨ (∃ i, i < sl.length ∧ b = (sl.getD i dS).blk) ∨ ∃ c, c < q ∧ (b = P c ∨ b = I c ∨ (V c).ownBlock = some b)
theorem Ar.foot (h : Ar N B S k q sl P I V xs w) {b : Nat} (hb : Foot B S q sl P I V b) : S ≤ b ∧ b < w.heap.size := by
  have hB := h.ltB
  have hSB := h.SB
  rcases hb with rfl | rfl | ⟨i, hi, rfl⟩ | ⟨c, hc, rfl | rfl | hv⟩
  · omega
  · exact ⟨Nat.le_refl _, h.row.lt⟩
  · obtain ⟨h1, _, _, h2⟩ := h.wds i hi
    have := lt_of_heap h1
    omega
  · have := h.Ige hc; omega
  · have := h.Ige hc; omega
  · have := (h.pl c hc).ltv b hv
    have := h.Ige hc
    omega
theorem Ar.same (h : Ar N B S k q sl P I V xs w) (hb : ∀ b, Foot B S q sl P I V b → w'.heap[b]? = w.heap[b]?) : Ar N B S k q sl P I V xs w' :=
  ⟨(hb B (.inl rfl)).trans h.box, h.NS, h.SB, h.row.same (hb S (.inr (.inl rfl))), fun i hi => by
    obtain ⟨h1, h2⟩ := h.wds i hi
    exact ⟨(hb _ (.inr (.inr (.inl ⟨i, hi, rfl⟩)))).trans h1, h2⟩, fun c hc => (h.pl c hc).same (hb _ (.inr (.inr (.inr ⟨c, hc, .inl rfl⟩)))) (hb _ (.inr (.inr (.inr ⟨c, hc, .inr (.inl rfl)⟩)))) (fun g hg => hb g (.inr (.inr (.inr ⟨c, hc, .inr (.inr hg)⟩)))), h.sep⟩
theorem Ar.on (h : Ar N B S k q sl P I V xs w) (hb : Below w.heap.size w w') : Ar N B S k q sl P I V xs w' := h.same fun b hf => hb.block b (h.foot hf).2
/-- Slots turn in their row. -/
theorem Ar.slots {sl' : List Sl} (h : Ar N B S k q sl P I V xs w) (hr : SRow w' S sl') (hl : sl'.length = sl.length) (he : ∀ i, i < sl.length → (sl'.getD i dS).blk = (sl.getD i dS).blk ∧ (sl'.getD i dS).ws = (sl.getD i dS).ws ∧ (sl'.getD i dS).cls = (sl.getD i dS).cls)
    (hb : ∀ b, b ≠ S → w'.heap[b]? = w.heap[b]?) : Ar N B S k q sl' P I V xs w' := by
  have hSB := h.SB
  refine ⟨by rw [hl]; exact (hb B (by omega)).trans h.box, h.NS, h.SB, hr, fun i hi => ?_, fun c hc => (h.pl c hc).same (hb _ ?_) (hb _ ?_) (fun g hg => hb g ?_), ⟨fun i j hi hj hne => ?_, fun i c hi hc => ?_, h.sep.p1⟩⟩
  · rw [hl] at hi
    obtain ⟨e1, e2, e3⟩ := he i hi
    obtain ⟨h1, h2, h3, h4⟩ := h.wds i hi
    rw [e1, e2, e3]
    exact ⟨(hb _ (by omega)).trans h1, h2, h3, h4⟩
  · have := h.Ige hc; omega
  · have := h.Ige hc; omega
  · have := (h.pl c hc).ltv g hg; have := h.Ige hc; omega
  · rw [hl] at hi hj
    rw [(he i hi).1, (he j hj).1]
    exact h.sep.b1 i j hi hj hne
  · rw [hl] at hi
    rw [(he i hi).1]
    exact h.sep.b2 i c hi hc
theorem heap_far (w : World) (a : Addr) (u : Value) {b : Nat} (h : b ≠ a.block) : (w.setCell a u).heap[b]? = w.heap[b]? := Below.heap_setCell w a u b h
theorem Ar.setLive (h : Ar N B S k q sl P I V xs w) {i : Nat} (hi : i < sl.length) (b : Bool) : Ar N B S k q (sl.set i { sl.getD i dS with live := b }) P I V xs (w.setCell ⟨S, i * 4 + 2, none⟩ (.bool b)) :=
  h.slots (h.row.setLive hi b) (List.length_set ..) (fun j hj => by rw [getD_set hi]; split <;> simp [*]) fun x hx => heap_far _ _ _ hx
theorem Ar.setGen (h : Ar N B S k q sl P I V xs w) {i : Nat} (hi : i < sl.length) (g : Nat) : Ar N B S k q (sl.set i { sl.getD i dS with gen := g }) P I V xs (w.setCell ⟨S, i * 4 + 1, none⟩ (.int .i64 (g : Nat))) :=
  h.slots (h.row.setGen hi g) (List.length_set ..) (fun j hj => by rw [getD_set hi]; split <;> simp [*]) fun x hx => heap_far _ _ _ hx
/-- A slot's words turn. -/
theorem Ar.words (h : Ar N B S k q sl P I V xs w) {i : Nat} (hi : i < sl.length) (l : List Int) (hl : l.length = szN (sl.getD i dS).cls) (hw : w'.heap[(sl.getD i dS).blk]? = some (.cells (wv l).toArray 35 (0, 0)))
    (hb : ∀ b, b < w.heap.size → b ≠ (sl.getD i dS).blk → w'.heap[b]? = w.heap[b]?) : Ar N B S k q (sl.set i { sl.getD i dS with ws := l }) P I V xs w' := by
  have hSB := h.SB
  have hB := h.ltB
  obtain ⟨h1, h2, h3, h4⟩ := h.wds i hi
  have hf : ∀ b, Foot B S q sl P I V b → b ≠ (sl.getD i dS).blk → w'.heap[b]? = w.heap[b]? := fun b hf hne => hb b (h.foot hf).2 hne
  have hS : w'.heap[S]? = w.heap[S]? := hf S (.inr (.inl rfl)) (by omega)
  refine ⟨by rw [List.length_set]; exact (hf B (.inl rfl) (by omega)).trans h.box, h.NS, h.SB, (h.row.same hS).ws hi l, fun j hj => ?_, fun c hc => (h.pl c hc).same ?_ ?_ (fun g hg => ?_), ⟨fun a c ha hc hne => ?_, fun a c ha hc => ?_, h.sep.p1⟩⟩
  · rw [List.length_set] at hj
    rw [getD_set hi]
    by_cases e : j = i
    · subst e
      rw [if_pos rfl]
      exact ⟨hw, hl, h3, h4⟩
    · rw [if_neg e]
      obtain ⟨k1, k2⟩ := h.wds j hj
      exact ⟨(hf _ (.inr (.inr (.inl ⟨j, hj, rfl⟩))) (h.sep.b1 j i hj hi e)).trans k1, k2⟩
  · exact hf _ (.inr (.inr (.inr ⟨c, hc, .inl rfl⟩))) (Ne.symm (h.sep.b2 i c hi hc).1)
  · exact hf _ (.inr (.inr (.inr ⟨c, hc, .inr (.inl rfl)⟩))) (Ne.symm (h.sep.b2 i c hi hc).2.1)
  · exact hf _ (.inr (.inr (.inr ⟨c, hc, .inr (.inr hg)⟩))) (fun e => (h.sep.b2 i c hi hc).2.2 (e ▸ hg))
  · rw [List.length_set] at ha hc
    rw [getD_set hi, getD_set hi]
    have := h.sep.b1 a c ha hc hne
    split <;> split <;> simp_all
  · rw [List.length_set] at ha
    rw [getD_set hi]
    have := h.sep.b2 a c ha hc
    split <;> simp_all
def up {α : Type} (f : Nat → α) (c : Nat) (x : α) : Nat → α := fun d => if d = c then x else f d
theorem up_same {α : Type} (f : Nat → α) (c : Nat) (x : α) : up f c x c = x := by simp [up]
theorem up_other {α : Type} (f : Nat → α) {c d : Nat} (x : α) (h : d ≠ c) : up f c x d = f d := by simp [up, h]
/-- A pool turns. -/
theorem Ar.pool (h : Ar N B S k q sl P I V xs w) {c : Nat} (hc : c < q) {v' : Value} {ys : List Int} (hs : St (B + 1) (P c) (I c) k v' ys w') (hk : Kept (P c) (I c) (V c) v' w w') : Ar N B S k q sl P I (up V c v') (up xs c ys) w' := by
  have hSB := h.SB
  have hB := h.ltB
  have hI := h.Ige hc
  have hf : ∀ b, Foot B S q sl P I V b → b ≠ P c → b ≠ I c → (V c).ownBlock ≠ some b → w'.heap[b]? = w.heap[b]? := fun b hf h1 h2 h3 => hk.block b (h.foot hf).2 h1 h2 (Ne.symm h3)
  have hvc : ∀ b, (V c).ownBlock = some b → P c < b := fun b hb => ((h.pl c hc).ltv b hb).1
  have hnew : ∀ b, v'.ownBlock = some b → (V c).ownBlock = some b ∨ w.heap.size ≤ b := fun b hb => by
    rcases Nat.lt_or_ge b w.heap.size with h1 | h1
    · exact .inl (hk.row b h1 hb.symm).symm
    · exact .inr h1
  have key : ∀ b, Foot B S q sl P I V b → (V c).ownBlock ≠ some b → v'.ownBlock ≠ some b := fun b hf h1 h2 => by
    rcases hnew b h2 with h3 | h3
    · exact h1 h3
    · have := (h.foot hf).2; omega
  refine ⟨(hf B (.inl rfl) (by omega) (by omega) (fun e => by have := hvc _ e; omega)).trans h.box, h.NS, h.SB, h.row.same (hf S (.inr (.inl rfl)) (by omega) (by omega) (fun e => by have := hvc _ e; omega)), fun i hi => ?_, fun d hd => ?_, ⟨h.sep.b1, fun i d hi hd => ?_, fun a d ha hd hne => ?_⟩⟩
  · obtain ⟨h1, h2⟩ := h.wds i hi
    have hb2 := h.sep.b2 i c hi hc
    exact ⟨(hf _ (.inr (.inr (.inl ⟨i, hi, rfl⟩))) hb2.1 hb2.2.1 hb2.2.2).trans h1, h2⟩
  · by_cases e : d = c
    · subst e
      rw [up_same, up_same]
      exact hs
    · rw [up_other _ _ e, up_other _ _ e]
      have hp := h.sep.p1 c d hc hd (Ne.symm e)
      have hp2 := h.sep.p1 d c hd hc e
      refine (h.pl d hd).same (hf _ (.inr (.inr (.inr ⟨d, hd, .inl rfl⟩))) (Ne.symm hp.1) hp2.2.2.1 hp.2.2.2.1) (hf _ (.inr (.inr (.inr ⟨d, hd, .inr (.inl rfl)⟩))) (Ne.symm hp.2.2.1) (Ne.symm hp.2.1) hp.2.2.2.2.1) (fun g hg => hf _ (.inr (.inr (.inr ⟨d, hd, .inr (.inr hg)⟩))) (fun e => hp2.2.2.2.1 (e ▸ hg)) (fun e => hp2.2.2.2.2.1 (e ▸ hg)) (hp2.2.2.2.2.2 g hg))
  · have hb2 := h.sep.b2 i d hi hd
    refine ⟨hb2.1, hb2.2.1, ?_⟩
    by_cases e : d = c
    · subst e
      rw [up_same]
      exact key _ (.inr (.inr (.inl ⟨i, hi, rfl⟩))) hb2.2.2
    · rw [up_other _ _ e]; exact hb2.2.2
  · have hp := h.sep.p1 a d ha hd hne
    refine ⟨hp.1, hp.2.1, hp.2.2.1, ?_, ?_, ?_⟩
    · by_cases e : a = c
      · subst e; rw [up_same]; exact key _ (.inr (.inr (.inr ⟨d, hd, .inl rfl⟩))) hp.2.2.2.1
      · rw [up_other _ _ e]; exact hp.2.2.2.1
    · by_cases e : a = c
      · subst e; rw [up_same]; exact key _ (.inr (.inr (.inr ⟨d, hd, .inr (.inl rfl)⟩))) hp.2.2.2.2.1
      · rw [up_other _ _ e]; exact hp.2.2.2.2.1
    · intro g
      by_cases e : a = c
      · subst e
        rw [up_same, up_other _ _ (Ne.symm hne)]
        intro h1 h2
        rcases hnew g h1 with h3 | h3
        · exact hp.2.2.2.2.2 g h3 h2
        · have := ((h.pl d hd).ltv g h2).2; omega
      · rw [up_other _ _ e]
        by_cases e2 : d = c
        · subst e2
          rw [up_same]
          intro h1 h2
          rcases hnew g h2 with h3 | h3
          · exact hp.2.2.2.2.2 g h1 h3
          · have := ((h.pl a ha).ltv g h1).2; omega
        · rw [up_other _ _ e2]; exact hp.2.2.2.2.2 g
end
end Go.Proofs.Ytndmpdpmfieacaa
