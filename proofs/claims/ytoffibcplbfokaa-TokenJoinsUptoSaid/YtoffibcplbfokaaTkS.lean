/-
  slices.Sort and slices.Compact of a row of the call's own; conditions: lengths.
-/
import Derived.Test.YtoffibcplbfokaaTk2
import Derived.Test.YtoffibcplbfokaaShelf
namespace Go.Proofs.Ytoffibcplbfokaa
open Go.RowKit Go.WideShapes Go.ChangeShapes
set_option linter.all false
theorem Mid.holds {w : World} {N n g off c : Nat} {l : List (List UInt8)} (h : Mid w N 9 1 (.slice (some ⟨g, off, none⟩) n c) n (strs l)) : Go.Sort.Holds encStr w g off l.toArray := by
  intro j hj
  have hj' : j < l.length := by simpa using hj
  refine ⟨?_, ?_⟩
  · have := h.cells j (.string (bt l[j])) (by unfold strs; rw [List.getElem?_map, List.getElem?_eq_getElem hj']; rfl)
    rw [this, getElem!_pos _ j hj]; rfl
  · rcases h.2 with ⟨h', _⟩ | ⟨g', o', c', cur, h', _, hh, _⟩
    · cases h'
    · simp only [Value.slice.injEq, Option.some.injEq, Addr.mk.injEq, and_true, true_and] at h'
      obtain ⟨⟨rfl, rfl⟩, rfl⟩ := h'
      simp [World.frozen?, hh]
theorem Mid.slen {w : World} {N n : Nat} {v : Value} {l : List (List UInt8)} (h : Mid w N 9 1 v n (strs l)) : l.length = n := by
  have := h.1; rw [strs_len] at this; omega
theorem putRow_mid {w : World} {N n g off c q : Nat} {l d : List (List UInt8)} (h : Mid w N 9 1 (.slice (some ⟨g, off, none⟩) n c) n (strs l)) (hd : d.length = n) :
    Mid (Go.Sort.putRow encStr (Go.Sort.ahead w q) g off d.toArray) N 9 1 (.slice (some ⟨g, off, none⟩) n c) n (strs d) ∧ Below N w (Go.Sort.putRow encStr (Go.Sort.ahead w q) g off d.toArray) := by
  rcases h.2 with ⟨h', _⟩ | ⟨g', o', c', cur, h', hb, hh, hn, hc, hs, hx⟩
  · cases h'
  · simp only [Value.slice.injEq, Option.some.injEq, Addr.mk.injEq, and_true, true_and] at h'
    obtain ⟨⟨rfl, rfl⟩, rfl⟩ := h'
    have hnew : (Go.Sort.putRow encStr (Go.Sort.ahead w q) g off d.toArray).heap[g]? = some (.cells (Go.Sort.putCells encStr off d.toArray cur) 9 (0, 0)) := by
      simp [Go.Sort.putRow, Go.Sort.mapBlock, Array.getElem?_modify, hh, Go.Sort.onCells]
    refine ⟨⟨by rw [strs_len, hd, Nat.mul_one], .inr ⟨g, off, c, _, rfl, hb, hnew, hn, hc, by simp [Go.Sort.putCells]; omega, ?_⟩⟩, ⟨rfl, rfl, rfl, by simp, fun k hk => ?_⟩⟩
    · apply List.ext_getElem?
      intro i
      rw [List.getElem?_take, List.getElem?_drop]
      unfold strs
      rw [List.getElem?_map]
      by_cases hi : i < n
      · rw [if_pos (by omega), List.getElem?_eq_getElem (l := d) (i := i) (by omega)]
        unfold Go.Sort.putCells
        rw [Array.getElem?_toList, Array.getElem?_mapIdx, Array.getElem?_eq_getElem (by omega)]
        simp only [Option.map_some]
        rw [if_pos ⟨by omega, by simp; omega⟩, getElem!_pos _ _ (by simp; omega)]
        simp [bt]
      · rw [if_neg (by omega), List.getElem?_eq_none (by omega)]; rfl
    · simp only [Go.Sort.putRow, Go.Sort.mapBlock, Array.getElem?_modify]
      rw [if_neg (by omega)]; rfl
theorem Mid.grow {w : World} {N n : Nat} {v : Value} {xs : List Value} (h : Mid w N 9 1 v n xs) (os : Array Obj) : Mid (Go.Sort.grow w os) N 9 1 v n xs :=
  h.same fun g hg => Go.Sort.heap_grow_old w os (h.lt g hg).2
theorem below_grow {a w : World} {N : Nat} (h : Below N a w) (hN : N ≤ w.heap.size) (os : Array Obj) : Below N a (Go.Sort.grow w os) :=
  ⟨h.os, h.tape, h.output, by have := h.size; rw [Go.Sort.size_grow]; omega, fun k hk => (Go.Sort.heap_grow_old w os (by omega)).trans (h.block k hk)⟩
theorem Mid.upto {w : World} {N n k c : Nat} {t : TypeId} {A : Option Addr} {xs : List Value} (h : Mid w N t 1 (.slice A n c) n xs) (hk : k ≤ n) : Mid w N t 1 (.slice A k c) k (xs.take k) := by
  refine ⟨by rw [List.length_take, h.1]; omega, ?_⟩
  rcases h.2 with ⟨h', h0⟩ | ⟨g, off, cap, cur, h', hb, hh, hn, hc, hs, hx⟩
  · simp only [Value.slice.injEq] at h'
    obtain ⟨rfl, _, rfl⟩ := h'
    obtain rfl : k = 0 := by omega
    exact .inl ⟨rfl, rfl⟩
  · simp only [Value.slice.injEq, true_and] at h'
    obtain ⟨rfl, rfl⟩ := h'
    refine .inr ⟨g, off, _, cur, rfl, hb, hh, by omega, hc, hs, ?_⟩
    rw [← hx, List.take_take, Nat.min_eq_left (by omega), Nat.mul_one]
/-- slices.Sort of a row of the call's own. -/
theorem sort_mid {w : World} {N n c : Nat} {A : Option Addr} {l : List (List UInt8)} (h : Mid w N 9 1 (.slice A n c) n (strs l)) (hN : N ≤ w.heap.size) (hn : n < 4611686018427387904) :
    Calls Try.prog 17 #[.slice A n c] w fun e w' => e = .returned (.tuple #[]) ∧ Mid w' N 9 1 (.slice A n c) n (strs (srt l)) ∧ Below N w w' := by
  have hl := h.slen
  rcases h.2 with ⟨h', h0⟩ | ⟨g, off, cap, cur, h', _, hh, _⟩
  · simp only [Value.slice.injEq] at h'
    obtain ⟨rfl, rfl, rfl⟩ := h'
    have e : l = [] := List.eq_nil_of_length_eq_zero hl
    subst e
    refine (slices_Sort_string_none none 0 w).mono ?_
    rintro e w' ⟨rfl, rfl⟩
    exact ⟨rfl, by simpa [srt] using h, Below.refl _ _⟩
  · simp only [Value.slice.injEq, true_and] at h'
    obtain ⟨rfl, rfl⟩ := h'
    have hg : g < w.heap.size := by
      rcases Nat.lt_or_ge g w.heap.size with hlt | hge
      · exact hlt
      · rw [Array.getElem?_eq_none hge] at hh; cases hh
    have := slices_Sort_string g off c l w h.holds hg (by omega)
    rw [hl] at this
    refine this.mono ?_
    rintro e w' ⟨rfl, q, os, rfl⟩
    change Ending.returned _ = _ ∧ Mid (Go.Sort.grow (Go.Sort.putRow encStr (Go.Sort.ahead w q) g off (srt l).toArray) os) _ _ _ _ _ _ ∧ Below _ _ (Go.Sort.grow (Go.Sort.putRow encStr (Go.Sort.ahead w q) g off (srt l).toArray) os)
    have hlen : (srt l).length = n := by unfold srt; rw [List.length_mergeSort, hl]
    obtain ⟨h1, h2⟩ := putRow_mid (q := q) h hlen
    exact ⟨rfl, h1.grow os, below_grow h2 (by simpa using hN) os⟩
theorem compact_len (zs : List (List UInt8)) : (Lib.compact zs).length ≤ zs.length := by
  unfold Lib.compact Lib.compactUpTo
  rw [List.length_map]
  exact Nat.le_trans (List.length_filter_le _ _) (by simp)
/-- slices.Compact of a row of the call's own. -/
theorem compact_mid {w : World} {N n c : Nat} {A : Option Addr} {l : List (List UInt8)} (h : Mid w N 9 1 (.slice A n c) n (strs l)) (hN : N ≤ w.heap.size) (hn : n < 4611686018427387904) :
    Calls Try.prog 18 #[.slice A n c] w fun e w' => ∃ k, e = .returned (.slice A k c) ∧ k = (Lib.compact l).length ∧ k ≤ n ∧ Mid w' N 9 1 (.slice A k c) k (strs (Lib.compact l)) ∧ Below N w w' := by
  have hl := h.slen
  have hcl := compact_len l
  rcases h.2 with ⟨h', h0⟩ | ⟨g, off, cap, cur, h', _, hh, hnc, hcm, _⟩
  · simp only [Value.slice.injEq] at h'
    obtain ⟨rfl, rfl, rfl⟩ := h'
    have e : l = [] := List.eq_nil_of_length_eq_zero hl
    subst e
    refine (slices_Compact_string_empty none 0 w).mono ?_
    rintro e w' ⟨rfl, rfl⟩
    exact ⟨0, rfl, rfl, Nat.le_refl _, h, Below.refl _ _⟩
  · simp only [Value.slice.injEq, true_and] at h'
    obtain ⟨rfl, rfl⟩ := h'
    have := slices_Compact_string g off c l w h.holds (by omega) (by omega)
    rw [hl] at this
    refine this.mono ?_
    rintro e w' ⟨rfl, q, rfl⟩
    obtain ⟨h1, h2⟩ := putRow_mid (q := q) (d := Lib.compact l ++ List.replicate (n - (Lib.compact l).length) []) h (by simp; omega)
    refine ⟨_, rfl, rfl, by omega, ?_, h2⟩
    have := h1.upto (k := (Lib.compact l).length) (by omega)
    rw [strs_append, List.take_append_of_le_length (by rw [strs_len]; exact Nat.le_refl _), List.take_of_length_le (by rw [strs_len]; exact Nat.le_refl _)] at this
    exact this
end Go.Proofs.Ytoffibcplbfokaa
