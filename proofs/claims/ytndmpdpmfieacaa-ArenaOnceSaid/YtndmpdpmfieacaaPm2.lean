/-
  heap.Push and heap.Pop over the pool's numbers, told by lists.
-/
import Derived.Test.YtndmpdpmfieacaaPm1
import Derived.Test.YtndmpdpmfieacaaHm
namespace Go.Proofs.Ytndmpdpmfieacaa
open Go.RowKit Go.WideShapes Go.ChangeShapes
set_option linter.all false
def ints (xs : List Int) : List Value := xs.map (Value.int .i64)
theorem ints_len (xs : List Int) : (ints xs).length = xs.length := by simp [ints]
theorem ints_at (xs : List Int) (m : Nat) (h : m < xs.length) : (ints xs)[m]? = some (.int .i64 (xs.getD m 0)) := by
  simp [ints, List.getD_eq_getElem?_getD, h]
theorem row_of_own {w : World} {B g n c : Nat} {xs : List Int} (h : w.ownsRow B 3 1 (.slice (some ⟨g, 0, none⟩) n c) n (ints xs)) : Row g xs w := by
  have hl := h.1
  rw [ints_len] at hl
  exact ⟨fun m hm => (h.cellAt m (by omega)).trans (ints_at xs m hm), fun m hm => h.frozenAt m⟩
theorem own_of_row {w : World} {B g n c : Nat} {ys : List Value} {xs : List Int} (h : w.ownsRow B 3 1 (.slice (some ⟨g, 0, none⟩) n c) n ys) (hr : Row g xs w) (hl : xs.length = n) : w.ownsRow B 3 1 (.slice (some ⟨g, 0, none⟩) n c) n (ints xs) := by
  have e : ys = ints xs := by
    apply List.ext_getElem?
    intro m
    by_cases hm : m < n
    · rw [← h.cellAt m (by omega), hr.cell m (by omega), ints_at xs m (by omega)]
    · rw [List.getElem?_eq_none (by have := h.1; omega), List.getElem?_eq_none (by rw [ints_len]; omega)]
  rw [← e]; exact h
theorem OnlyR.grown {g : Nat} {w w' : World} (h : OnlyR g w w') : w.grownBy w' (some g) := ⟨h.os, h.tape, h.output, Nat.le_of_eq h.size.symm, fun k _ hk => h.block k (fun e => hk (by rw [e]))⟩
theorem OnlyR.owns {g B n c : Nat} {w w' : World} {xs ys : List Int} (h : OnlyR g w w') (ho : w.ownsRow B 3 1 (.slice (some ⟨g, 0, none⟩) n c) n (ints xs)) (hr : Row g ys w') (hl : ys.length = n) : w'.ownsRow B 3 1 (.slice (some ⟨g, 0, none⟩) n c) n (ints ys) := by
  obtain ⟨zs, hz⟩ := h.own B n c _ ho
  exact own_of_row hz hr hl
/-- What a call did to the heap at P, whose row was v: only P and the row have turned, and what is new. -/
structure Turned (P : Nat) (v : Value) (w w' : World) : Prop where
  os : w'.os = w.os
  tape : w'.tape = w.tape
  output : w'.output = w.output
  size : w.heap.size ≤ w'.heap.size
  block : ∀ b, b < w.heap.size → b ≠ P → some b ≠ v.ownBlock → w'.heap[b]? = w.heap[b]?
  other : ∀ o, o ≠ 0 → w'.cell? ⟨P, o, none⟩ = w.cell? ⟨P, o, none⟩
/-- The heap at P with the row v, which reads xs. -/
structure Heap (P B : Nat) (v : Value) (xs : List Int) (w : World) : Prop where
  cell : w.cell? ⟨P, 0, none⟩ = some v
  free : w.frozen? ⟨P, 0, none⟩ = false
  own : w.ownsRow B 3 1 v xs.length (ints xs)
theorem own_slice {w : World} {B n : Nat} {v : Value} {xs : List Value} (h : w.ownsRow B 3 1 v n xs) : ∃ A c, v = .slice A n c := by
  rcases h.2 with ⟨rfl, rfl⟩ | ⟨g, cap, cur, rfl, _⟩
  · exact ⟨none, 0, rfl⟩
  · exact ⟨_, _, rfl⟩
theorem frozen_setCell_cell (w : World) (a p : Addr) (u : Value) : (w.setCell a u).frozen? p = w.frozen? p := World.frozen?_setCell w a p u
set_option maxRecDepth 100000 in
set_option maxHeartbeats 800000 in
theorem hpush_own (P B : Nat) (v : Value) (xs : List Int) (n : Int) (w : World) (h : Heap P B v xs w) (hm : xs.length < 900000) (hPB : P < B) (hBw : B ≤ w.heap.size) :
    Calls Try.prog 77 #[.iface 150 (.pointer (some ⟨P, 0, none⟩)), .iface 3 (.int .i64 n)] w fun e w' => e = .returned (.tuple #[]) ∧ ∃ v', Heap P B v' (pushF xs n) w' ∧ Turned P v w w' ∧ (∀ b, some b = v'.ownBlock → some b = v.ownBlock ∨ w.heap.size ≤ b) := by
  obtain ⟨A, c, rfl⟩ := own_slice h.own
  have hm1 := m_push ⟨P, 0, none⟩
  have HP := h.cell
  have HF := h.free
  have HO := h.own
  have lP := World.block_lt_of_cell? w _ HP
  generalize hL : xs.length = L at *
  go_enter Try.func77, Try.ntmps77
  have HL := Lib.hid hL
  clear hL
  clear h
  go_wp2_with (first
    | (go_at_call 129
       refine (npush_own P B L c A (ints xs) n _ (by omega) hPB HP HF HO hBw).mono ?_
       rintro e w1 ⟨rfl, g, cap, w2, hO, hG, hg, rfl⟩
       have hgB := (hO.lt g rfl).1
       have hgP : P ≠ g := by omega
       have e2 : ints xs ++ [.int .i64 n] = ints (xs ++ [n]) := by simp [ints]
       rw [e2] at hO
       have hPr : some P ≠ (Value.slice A L c).ownBlock := by
         intro e
         have := (HO.lt P e.symm).1
         omega
       have c2 : w2.cell? ⟨P, 0, none⟩ = some (.slice A L c) := by rw [hG.cell_far _ lP hPr]; exact HP
       have c1 := World.cell?_setCell_same w2 _ (.slice (some ⟨g, 0, none⟩) (L + 1) cap) c2
       have f1 : (w2.setCell ⟨P, 0, none⟩ (.slice (some ⟨g, 0, none⟩) (L + 1) cap)).frozen? ⟨P, 0, none⟩ = false := by
         rw [World.frozen?_setCell, hG.frozen_far _ lP hPr]; exact HF
       have hO1 : (w2.setCell ⟨P, 0, none⟩ (.slice (some ⟨g, 0, none⟩) (L + 1) cap)).ownsRow B 3 1 (.slice (some ⟨g, 0, none⟩) (L + 1) cap) (L + 1) (ints (xs ++ [n])) :=
         hO.kept (row := some P) ⟨rfl, rfl, rfl, by simp, fun k _ hk => Below.heap_setCell w2 _ _ k (fun e => hk (by rw [e]))⟩ (.inr (by simp [Value.ownBlock]; omega))
       have hr1 := row_of_own hO1
       have hm2 := m_len _ _ _ _ _ c1
       have XL : Hid ((xs ++ [n]).length = L + 1) := by have := HL.out; simp [Lib.hid]; exact Lib.hid (by simp [this])
       have T1 : Hid (Turned P (.slice A L c) w (w2.setCell ⟨P, 0, none⟩ (.slice (some ⟨g, 0, none⟩) (L + 1) cap))) := Lib.hid ⟨hG.os, hG.tape, hG.output, by simpa using hG.size, fun b hb hp hv => (Below.heap_setCell w2 _ _ b hp).trans (hG.block b hb hv), fun o ho => (World.cell?_setCell_other w2 _ _ _ (by simp [Ne.symm ho])).trans (hG.cell_far _ lP hPr)⟩
       have HG := Lib.hid hg
       have H1 := Lib.hid hO1
       have C1 := Lib.hid c1
       have F1 := Lib.hid f1
       clear hg hO1 hO f1 c2 hPr e2)
    | (go_at_call 97
       refine (up_any P g (L + 1) cap (xs ++ [n]) L _ (by omega) XL.out (by omega) hgP C1.out hr1).mono ?_
       rintro e w3 ⟨rfl, hR, hOn⟩)
    | go_in
    | fail)
  go_end0
  have hlen : (xs ++ [n]).length = L + 1 := XL.out
  have hp : upF (xs ++ [n]) L = pushF xs n := by unfold pushF; rw [HL.out]
  rw [hp] at hR
  have hpl : (pushF xs n).length = L + 1 := by rw [pushF_len, HL.out]
  refine ⟨rfl, .slice (some ⟨g, 0, none⟩) (L + 1) cap, ⟨(hOn.cell hgP).trans C1.out, ?_, ?_⟩, ?_, ?_⟩
  · exact (World.frozen?_of_block (hOn.block P hgP)).trans F1.out
  · rw [hpl]; exact hOn.owns H1.out hR hpl
  · have T := T1.out
    refine ⟨hOn.os.trans T.os, hOn.tape.trans T.tape, hOn.output.trans T.output, by rw [hOn.size]; exact T.size, fun b hb hp hv => ?_, fun o ho => (hOn.cell hgP).trans (T.other o ho)⟩
    have hbg : b ≠ g := by
      intro e; subst e
      rcases HG.out with h | h
      · exact hv h.symm
      · omega
    exact (hOn.block b hbg).trans (T.block b hb hp hv)
  · intro b hb
    simp only [Value.ownBlock, Option.some.injEq] at hb
    subst hb
    rcases HG.out with h | h
    · exact .inl h.symm
    · exact .inr h
end Go.Proofs.Ytndmpdpmfieacaa
