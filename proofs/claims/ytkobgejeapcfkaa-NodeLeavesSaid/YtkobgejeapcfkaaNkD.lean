/-
  RightLeaf, Size, High at the class of leaves; condition: a length that fits an int.
-/
import Derived.Test.YtkobgejeapcfkaaNkC
import Derived.Test.YtkobgejeapcfkaaNkS
namespace Go.Proofs.Ytkobgejeapcfkaa
open Go.RowKit Go.WideShapes Go.ChangeShapes
set_option linter.all false
theorem size0_any (w : World) : Calls Try.prog 19 #[.int .i64 0] w fun e w' => e = .returned (.int .i64 8) ∧ w' = w := by
  go_enter Try.func19, Try.ntmps19
  go_wp2
  go_ret
  exact ⟨rfl, rfl⟩
theorem high0_any (w : World) : Calls Try.prog 21 #[.int .i64 0] w fun e w' => e = .returned (.int .i64 0) ∧ w' = w := by
  go_enter Try.func21, Try.ntmps21
  go_wp2
  go_ret
  exact ⟨rfl, rfl⟩
def leafOk (k : ByteArray) (v : Int) : Bool := ofOk k && (decide (0 ≤ v) && decide (v ≤ 1099511627776))
set_option maxRecDepth 100000 in
set_option maxHeartbeats 800000 in
theorem rightLeaf_any (k : ByteArray) (v : Int) (h9 : k.size ≤ 9223372036854775807) (w : World) : Calls Try.prog 5 #[.agg #[.string k, .int .i64 v]] w fun e w' => e = .returned (.bool (leafOk k v)) ∧ Below w.heap.size w w' := by
  have ho := fun w => of_any k h9 w
  cases hk : ofOk k with
  | false =>
    rw [hk] at ho
    have hl : leafOk k v = false := by unfold leafOk; rw [hk]; rfl
    rw [hl]
    go_enter Try.func5, Try.ntmps5
    go_wp2_with (first
      | (go_at_call 14; refine (ho _).mono ?_; rintro e w1 ⟨rfl, rfl⟩)
      | fail)
    go_ret
    exact ⟨rfl, (Below.refl _ _).alloc (Nat.le_refl _) _⟩
  | true =>
    rw [hk] at ho
    by_cases h0 : 0 ≤ v
    · by_cases h1 : v ≤ 1099511627776
      · have hl : leafOk k v = true := by unfold leafOk; rw [hk, decide_eq_true h0, decide_eq_true h1]; rfl
        rw [hl]
        go_enter Try.func5, Try.ntmps5
        go_wp2_with (first
          | (go_at_call 14; refine (ho _).mono ?_; rintro e w1 ⟨rfl, rfl⟩)
          | fail)
        go_ret
        exact ⟨rfl, (Below.refl _ _).alloc (Nat.le_refl _) _⟩
      · have hl : leafOk k v = false := by unfold leafOk; rw [hk, decide_eq_true h0, decide_eq_false h1]; rfl
        rw [hl]
        go_enter Try.func5, Try.ntmps5
        go_wp2_with (first
          | (go_at_call 14; refine (ho _).mono ?_; rintro e w1 ⟨rfl, rfl⟩)
          | fail)
        go_ret
        exact ⟨by show Ending.returned (Value.bool (decide (v ≤ 1099511627776))) = _; rw [decide_eq_false (by omega)], (Below.refl _ _).alloc (Nat.le_refl _) _⟩
    · have hl : leafOk k v = false := by unfold leafOk; rw [hk, decide_eq_false h0]; rfl
      rw [hl]
      go_enter Try.func5, Try.ntmps5
      go_wp2_with (first
        | (go_at_call 14; refine (ho _).mono ?_; rintro e w1 ⟨rfl, rfl⟩)
        | fail)
      go_ret
      exact ⟨rfl, (Below.refl _ _).alloc (Nat.le_refl _) _⟩
/-- The words of a leaf. -/
def leafW (k : ByteArray) (v : Int) : List Int := [0, 256 * (k.size : Int)] ++ ((ws k ++ [0, 0]).take 2 ++ [v, 0, 0, 0])
theorem leafOk_size {k : ByteArray} {v : Int} (h : leafOk k v = true) : 2 ≤ k.size ∧ k.size ≤ 13 ∧ 0 ≤ v ∧ v ≤ 1099511627776 := by
  unfold leafOk at h
  rw [Bool.and_eq_true, Bool.and_eq_true, decide_eq_true_eq, decide_eq_true_eq] at h
  obtain ⟨h1, h2, h3⟩ := h
  have hs : 2 ≤ k.size := by
    rcases Nat.lt_or_ge k.size 2 with h4 | h4
    · rw [ofOk_short k h4] at h1; cases h1
    · exact h4
  unfold ofOk at h1
  rw [Bool.and_eq_true] at h1
  obtain ⟨h5, h6⟩ := h1
  rw [cutB_eq k h5] at h6
  unfold rightL at h6
  rw [Bool.and_eq_true, Bool.and_eq_true, decide_eq_true_eq, decide_eq_true_eq, len_list, ByteArray.size_extract] at h6
  exact ⟨hs, by omega, h2, h3⟩
theorem leafW_len (k : ByteArray) (v : Int) : (leafW k v).length = 8 := by
  unfold leafW
  simp
theorem leafW_inj {k l : ByteArray} {v u : Int} (hk : cnt k.size ≤ 2) (h : leafW k v = leafW l u) : k = l ∧ v = u := by
  have h1 := congrArg (fun x => x.getD 1 0) h
  have hs : k.size = l.size := by
    have : (256 * (k.size : Int)) = 256 * (l.size : Int) := h1
    omega
  have h2 := congrArg (fun x => x.drop 2) h
  have h3 : (ws k ++ [0, 0]).take 2 ++ [v, 0, 0, 0] = (ws l ++ [0, 0]).take 2 ++ [u, 0, 0, 0] := h2
  have hlk : ((ws k ++ [0, 0]).take 2).length = 2 := by simp
  have hll : ((ws l ++ [0, 0]).take 2).length = 2 := by simp
  have h4 := List.append_inj h3 (hlk.trans hll.symm)
  have h5 : v = u := by have := h4.2; simp at this; exact this
  refine ⟨ws_inj hs ?_, h5⟩
  have e : ∀ x : ByteArray, cnt x.size ≤ 2 → ((ws x ++ [0, 0]).take 2).take (cnt x.size) = ws x := fun x hx => by
    rw [List.take_take, Nat.min_eq_left hx, List.take_append_of_le_length (by rw [ws_len]; exact Nat.le_refl _), List.take_of_length_le (by rw [ws_len]; exact Nat.le_refl _)]
  rw [← e k hk, ← e l (by rw [← hs]; exact hk), h4.1, hs]
end Go.Proofs.Ytkobgejeapcfkaa
