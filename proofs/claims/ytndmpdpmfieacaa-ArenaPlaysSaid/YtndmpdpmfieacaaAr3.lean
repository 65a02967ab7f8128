/-
  The arena's fill: what a slot's words are behind it; conditions: lengths.
-/
import Derived.Test.YtndmpdpmfieacaaAr2
import Derived.Laws.CopyRow
import Derived.Lib.SliceRun
import Derived.Deep.Upon
namespace Go.Proofs.Ytndmpdpmfieacaa
open Go.RowKit Go.WideShapes Go.ChangeShapes
set_option linter.all false
theorem info35 : (Try.prog.info? 35).map (·.size) = some 1 := by kernel_rfl
theorem wv_one (l : List Int) : ∀ v ∈ wv l, v.oneCell' = true := by
  intro v hv
  obtain ⟨x, _, rfl⟩ := List.mem_map.1 hv
  rfl
theorem copy_ex (ty : TypeId) (b n m c N : Nat) (A : Option Addr) (l : List Int) (cs : List Value) (w : World) (hb : w.heap[b]? = some (.cells cs.toArray 35 (0, 0))) (hl : cs.length = n) (hr : Reads w N 1 A m (wv l)) (hm : m ≤ n) :
    ∃ W, (Builtin.copy_ #[30, 30] ty #[.slice (some ⟨b, 0, none⟩) n n, .slice A m c]).run Try.prog w = .ok (.int .i64 (m : Nat)) W ∧ W.heap[b]? = some (.cells (wv l ++ cs.drop m).toArray 35 (0, 0)) ∧ w.grownBy W (some b) := by
  have hlm : l.length = m := by have := hr.1; rw [wv_len] at this; omega
  by_cases h0 : m = 0
  · subst h0
    have hl0 : l = [] := List.eq_nil_of_length_eq_zero hlm
    subst hl0
    exact ⟨w, run_copy_none w 30 30 ty 35 _ _ _ _ _ _ Try.underlying30 info35 (by simp), by simpa [wv] using hb, World.grownBy.refl _ _⟩
  · obtain ⟨ad, rfl, hlt, hc⟩ := hr.2 (by omega)
    have h := run_copy_row Try.prog w 30 30 ty 35 b 0 n n ad m c cs.toArray 35 (wv l) Try.underlying30 info35 hb (by rw [wv_len, hlm]; simp [Nat.min_def]; omega) hc (by rw [wv_len, hlm]; simp; omega) (wv_one l)
    rw [wv_len, hlm] at h
    have hg : (w.setRow b ((cs.toArray.toList.take 0 ++ wv l ++ cs.toArray.toList.drop (0 + m)).toArray)).heap[b]? = some (.cells (cs.toArray.toList.take 0 ++ wv l ++ cs.toArray.toList.drop (0 + m)).toArray 35 (0, 0)) := setRow_heap w b _ _ _ _ hb
    refine ⟨_, h, ?_, ⟨rfl, rfl, rfl, by simp, fun k hk hne => ?_⟩⟩
    · rw [hg]; simp
    · exact setRow_other w b k _ (by intro e; exact hne (by rw [e]))
theorem setCells_rest (b : Nat) : ∀ (vs : List Value) (o : Nat) (w : World), (w.setCells b o vs).tape = w.tape ∧ (w.setCells b o vs).heap.size = w.heap.size
  | [], _, _ => ⟨rfl, rfl⟩
  | v :: r, o, w => by
    have h := setCells_rest b r (o + 1) (w.setCell ⟨b, o, none⟩ v)
    exact ⟨h.1.trans (World.tape_setCell _ _ _), h.2.trans (by simp)⟩
set_option maxRecDepth 20000 in
theorem clear_ex (ty : TypeId) (b n m : Nat) (X : List Value) (w : World) (hb : w.heap[b]? = some (.cells X.toArray 35 (0, 0))) (hl : X.length = n) (hm : m ≤ n) :
    ∃ W, (Builtin.clear_ #[30] ty #[.slice (if n = m then some ⟨b, 0, none⟩ else some ⟨b, m, none⟩) (n - m) (n - m)]).run Try.prog w = .ok (.tuple #[]) W ∧ W.heap[b]? = some (.cells (X.take m ++ List.replicate (n - m) (Value.int .u64 0)).toArray 35 (0, 0)) ∧ w.grownBy W (some b) := by
  by_cases h : n = m
  · subst h
    refine ⟨w, ?_, ?_, World.grownBy.refl _ _⟩
    · rw [if_pos rfl, Nat.sub_self]
      simp [Builtin.clear_, run_underlying Try.underlying30, Try.zeroValue35, Builtin.zeroCells, storeCells]
    · rw [hb, Nat.sub_self, ← hl, List.take_length]; simp
  · have hr := Lib.run_clear_slice (P := Try.prog) w 30 35 ty (.int .u64 0) Try.underlying30 (fun w => Try.zeroValue35 w) rfl rfl b m (n - m) (n - m) (by omega)
      (fun j hj => by rw [cell_of hb]; simp [hl]; omega) (fun j hj => frozen_of hb _)
    rw [if_neg h]
    obtain ⟨c', h1, h2, h3, h4⟩ := heap_setCells_same (List.replicate (n - m) (Value.int .u64 0)) m w X.toArray 35 hb (by simp [hl]; omega)
    refine ⟨_, hr, ?_, ⟨World.os_setCells .., ?_, ?_, ?_, fun k hk hne => World.heap_setCells_other w b m _ hk (by intro e; exact hne (by rw [e]))⟩⟩
    · rw [h1]
      congr 2
      apply Array.ext'
      show c'.toList = X.take m ++ List.replicate (n - m) (Value.int .u64 0)
      rw [← List.take_append_drop m c'.toList, h3]
      congr 1
      rw [← h4]
      simp at h2
      rw [List.length_replicate, List.take_of_length_le (by simp [h2, hl])]
    · exact (setCells_rest ..).1
    · exact World.output_setCells ..
    · exact Nat.le_of_eq (setCells_rest ..).2.symm
/-- What a slot's words are behind fill. -/
def fillL (n : Nat) (l : List Int) : List Int := l ++ List.replicate (n - l.length) 0
theorem fillL_len {n : Nat} {l : List Int} (h : l.length ≤ n) : (fillL n l).length = n := by simp [fillL]; omega
set_option maxRecDepth 100000 in
set_option maxHeartbeats 800000 in
theorem fill_any (S o b n m c N : Nat) (A : Option Addr) (l : List Int) (cs : List Value) (w : World) (h3 : w.cell? ⟨S, o + 3, none⟩ = some (.slice (some ⟨b, 0, none⟩) n n)) (hb : w.heap[b]? = some (.cells cs.toArray 35 (0, 0))) (hl : cs.length = n) (hne : b ≠ S) (hn : n ≤ 1000)
    (hr : Reads w N 1 A m (wv l)) (hm : m ≤ n) :
    Calls Try.prog 53 #[.pointer (some ⟨S, o, none⟩), .slice A m c] w fun e w' => e = .returned (.tuple #[]) ∧ w'.heap[b]? = some (.cells (wv (fillL n l)).toArray 35 (0, 0)) ∧ w.grownBy w' (some b) := by
  have lS := World.block_lt_of_cell? w _ h3
  have hlm : l.length = m := by have := hr.1; rw [wv_len] at this; omega
  obtain ⟨W1, hc1, hb1, hg1⟩ := copy_ex 3 b n m c N A l cs w hb hl hr hm
  obtain ⟨W2, hc2, hb2, hg2⟩ := clear_ex 0 b n m (wv l ++ cs.drop m) W1 hb1 (by rw [List.length_append, wv_len, List.length_drop, hl, hlm]; omega) hm
  have h31 : W1.cell? ⟨S, o + 3, none⟩ = some (.slice (some ⟨b, 0, none⟩) n n) := (World.cell?_of_block (a := ⟨S, o + 3, none⟩) (hg1.block S lS (by intro e; injection e with e; exact hne e.symm))).trans h3
  have HB := Lib.hid hb2
  have HG := Lib.hid (hg1.trans hg2)
  have HL := Lib.hid hlm
  have m0 : (0 : Int) ≤ m := by omega
  have m1 : (m : Int) ≤ n := by omega
  clear hb1 hg1 hb2 hg2 hr hb hl hne hlm
  go_enter Try.func53, Try.ntmps53
  go_wp2
  all_goals
    go_end0
    refine ⟨rfl, ?_, HG.out⟩
    rw [HB.out, List.take_left' (by rw [wv_len, HL.out])]
    congr 2
    simp [wv, fillL, HL.out]
    try omega
end Go.Proofs.Ytndmpdpmfieacaa
