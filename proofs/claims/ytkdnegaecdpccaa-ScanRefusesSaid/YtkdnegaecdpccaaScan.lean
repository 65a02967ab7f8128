/-
  The law ScanRefuses, walked; no condition.
-/
import Derived.Test.YtkdnegaecdpccaaGet
namespace Go.Proofs.Ytkdnegaecdpccaa
open Go.RowKit Go.WideShapes Go.ChangeShapes
set_option linter.all false
set_option maxRecDepth 1000000
set_option maxHeartbeats 4000000 in
theorem scanR_001 (s t : ByteArray) (v kd : Int) (runs : ∀ w, Calls Try.prog 13 #[] w fun e w' => e = .returned (.bool true) ∧ Below w.heap.size w w') (w : World) (hs : ¬ (30 : Int) < s.size) (ht : ¬ (30 : Int) < t.size) (hc : (1 ≤ v ∧ v ≤ 16 ∧ s.size ≤ 13 ∧ t.size ≤ 13)) :
    Calls Try.prog 5 #[.string s, .string t, .int .i64 v, .int .i64 kd] w fun e w' => e = .returned (.bool true) ∧ Below w.heap.size w w' := by
  go_enter Try.func5, Try.ntmps5
  have hs2 : (0 : Int) ≤ s.size := by omega
  have hs3 : (s.size : Int) ≤ s.size := by omega
  have ht2 : (0 : Int) ≤ t.size := by omega
  have ht3 : (t.size : Int) ≤ t.size := by omega
  go_wp2
  go_region
  have HC : Hid ((1 ≤ v ∧ v ≤ 16 ∧ s.size ≤ 13 ∧ t.size ≤ 13)) := hc
  clear hc
  have c1 := HC.out.1
  have c2 := HC.out.2.1
  have c3 := HC.out.2.2.1
  have c4 := HC.out.2.2.2
  obtain ⟨q, hq, hq9⟩ := withinV_nat kd 3 (by omega)
  have hw := within_any kd 2 (by omega) (by omega)
  rw [show ((2 : Int) + 1) = ((3 : Nat) : Int) from by omega, hq] at hw
  have F1 : Hid True := trivial
  clear hq
  go_wp2_with (first
    | (go_at_call 12; clear F1; refine (scanNew_ok _ _ _ c1 c2 c3 c4 _).mono ?_; rintro e w1 ⟨p, rfl, hb1⟩)
    | (go_at_call 10; refine (hw _).mono ?_; rintro e w' ⟨rfl, rfl⟩)
    | (go_at_call 12; refine (scanNew_no _ _ _ _ _ _ (by rintro ⟨h, -⟩; omega)).mono ?_; rintro e w2 ⟨rfl, hb2⟩)
    | (go_at_call 13; refine (runs _).mono ?_; rintro e w5 ⟨rfl, hb5⟩)
    | go_in)
  all_goals first
    | (go_ret; exact ⟨rfl, after (undrew (after hb1 hb2)) hb5⟩)
    | (exfalso; omega)
    | (go_ret; refine ⟨?_, after (undrew (after hb1 hb2)) hb5⟩; show Ending.returned (Value.bool (!decide ((_ : Int) ≤ 13))) = _; rw [decide_eq_false (by omega)]; rfl)
    | (exact (HC.out ⟨by omega, by omega, by first | assumption | omega, by first | assumption | omega⟩).elim)
set_option maxHeartbeats 4000000 in
theorem scanR_110 (s t : ByteArray) (v kd : Int) (runs : ∀ w, Calls Try.prog 13 #[] w fun e w' => e = .returned (.bool true) ∧ Below w.heap.size w w') (w : World) (hs : (30 : Int) < s.size) (ht : (30 : Int) < t.size) (hc : ¬ (1 ≤ v ∧ v ≤ 16 ∧ (s.extract 0 30).size ≤ 13 ∧ (t.extract 0 30).size ≤ 13)) :
    Calls Try.prog 5 #[.string s, .string t, .int .i64 v, .int .i64 kd] w fun e w' => e = .returned (.bool true) ∧ Below w.heap.size w w' := by
  go_enter Try.func5, Try.ntmps5
  have hs2 : (30 : Int) ≤ s.size := by omega
  have ht2 : (30 : Int) ≤ t.size := by omega
  go_wp2
  go_region
  have HC : Hid (¬ (1 ≤ v ∧ v ≤ 16 ∧ (s.extract 0 30).size ≤ 13 ∧ (t.extract 0 30).size ≤ 13)) := hc
  clear hc
  obtain ⟨q, hq, hq9⟩ := withinV_nat kd 3 (by omega)
  have hw := within_any kd 2 (by omega) (by omega)
  rw [show ((2 : Int) + 1) = ((3 : Nat) : Int) from by omega, hq] at hw
  have F1 : Hid True := trivial
  clear hq
  go_wp2_with (first
    | (go_at_call 12; clear F1; refine (scanNew_no _ _ _ _ _ _ (fun h => HC.out h.2)).mono ?_; rintro e w1 ⟨rfl, hb1⟩)
    | (go_at_call 10; refine (hw _).mono ?_; rintro e w' ⟨rfl, rfl⟩)
    | (go_at_call 12; refine (scanNew_no _ _ _ _ _ _ (by rintro ⟨h, -⟩; omega)).mono ?_; rintro e w2 ⟨rfl, hb2⟩)
    | (go_at_call 13; refine (runs _).mono ?_; rintro e w5 ⟨rfl, hb5⟩)
    | go_in)
  all_goals first
    | (go_ret; exact ⟨rfl, after (undrew (after hb1 hb2)) hb5⟩)
    | (exfalso; omega)
    | (go_ret; refine ⟨?_, after (undrew (after hb1 hb2)) hb5⟩; show Ending.returned (Value.bool (!decide ((_ : Int) ≤ 13))) = _; rw [decide_eq_false (by omega)]; rfl)
    | (exact (HC.out ⟨by omega, by omega, by first | assumption | omega, by first | assumption | omega⟩).elim)
set_option maxHeartbeats 4000000 in
theorem scanR_100 (s t : ByteArray) (v kd : Int) (runs : ∀ w, Calls Try.prog 13 #[] w fun e w' => e = .returned (.bool true) ∧ Below w.heap.size w w') (w : World) (hs : (30 : Int) < s.size) (ht : ¬ (30 : Int) < t.size) (hc : ¬ (1 ≤ v ∧ v ≤ 16 ∧ (s.extract 0 30).size ≤ 13 ∧ t.size ≤ 13)) :
    Calls Try.prog 5 #[.string s, .string t, .int .i64 v, .int .i64 kd] w fun e w' => e = .returned (.bool true) ∧ Below w.heap.size w w' := by
  go_enter Try.func5, Try.ntmps5
  have hs2 : (30 : Int) ≤ s.size := by omega
  have ht2 : (0 : Int) ≤ t.size := by omega
  have ht3 : (t.size : Int) ≤ t.size := by omega
  go_wp2
  go_region
  have HC : Hid (¬ (1 ≤ v ∧ v ≤ 16 ∧ (s.extract 0 30).size ≤ 13 ∧ t.size ≤ 13)) := hc
  clear hc
  obtain ⟨q, hq, hq9⟩ := withinV_nat kd 3 (by omega)
  have hw := within_any kd 2 (by omega) (by omega)
  rw [show ((2 : Int) + 1) = ((3 : Nat) : Int) from by omega, hq] at hw
  have F1 : Hid True := trivial
  clear hq
  go_wp2_with (first
    | (go_at_call 12; clear F1; refine (scanNew_no _ _ _ _ _ _ (fun h => HC.out h.2)).mono ?_; rintro e w1 ⟨rfl, hb1⟩)
    | (go_at_call 10; refine (hw _).mono ?_; rintro e w' ⟨rfl, rfl⟩)
    | (go_at_call 12; refine (scanNew_no _ _ _ _ _ _ (by rintro ⟨h, -⟩; omega)).mono ?_; rintro e w2 ⟨rfl, hb2⟩)
    | (go_at_call 13; refine (runs _).mono ?_; rintro e w5 ⟨rfl, hb5⟩)
    | go_in)
  all_goals first
    | (go_ret; exact ⟨rfl, after (undrew (after hb1 hb2)) hb5⟩)
    | (exfalso; omega)
    | (go_ret; refine ⟨?_, after (undrew (after hb1 hb2)) hb5⟩; show Ending.returned (Value.bool (!decide ((_ : Int) ≤ 13))) = _; rw [decide_eq_false (by omega)]; rfl)
    | (exact (HC.out ⟨by omega, by omega, by first | assumption | omega, by first | assumption | omega⟩).elim)
set_option maxHeartbeats 4000000 in
theorem scanR_010 (s t : ByteArray) (v kd : Int) (runs : ∀ w, Calls Try.prog 13 #[] w fun e w' => e = .returned (.bool true) ∧ Below w.heap.size w w') (w : World) (hs : ¬ (30 : Int) < s.size) (ht : (30 : Int) < t.size) (hc : ¬ (1 ≤ v ∧ v ≤ 16 ∧ s.size ≤ 13 ∧ (t.extract 0 30).size ≤ 13)) :
    Calls Try.prog 5 #[.string s, .string t, .int .i64 v, .int .i64 kd] w fun e w' => e = .returned (.bool true) ∧ Below w.heap.size w w' := by
  go_enter Try.func5, Try.ntmps5
  have hs2 : (0 : Int) ≤ s.size := by omega
  have hs3 : (s.size : Int) ≤ s.size := by omega
  have ht2 : (30 : Int) ≤ t.size := by omega
  go_wp2
  go_region
  have HC : Hid (¬ (1 ≤ v ∧ v ≤ 16 ∧ s.size ≤ 13 ∧ (t.extract 0 30).size ≤ 13)) := hc
  clear hc
  obtain ⟨q, hq, hq9⟩ := withinV_nat kd 3 (by omega)
  have hw := within_any kd 2 (by omega) (by omega)
  rw [show ((2 : Int) + 1) = ((3 : Nat) : Int) from by omega, hq] at hw
  have F1 : Hid True := trivial
  clear hq
  go_wp2_with (first
    | (go_at_call 12; clear F1; refine (scanNew_no _ _ _ _ _ _ (fun h => HC.out h.2)).mono ?_; rintro e w1 ⟨rfl, hb1⟩)
    | (go_at_call 10; refine (hw _).mono ?_; rintro e w' ⟨rfl, rfl⟩)
    | (go_at_call 12; refine (scanNew_no _ _ _ _ _ _ (by rintro ⟨h, -⟩; omega)).mono ?_; rintro e w2 ⟨rfl, hb2⟩)
    | (go_at_call 13; refine (runs _).mono ?_; rintro e w5 ⟨rfl, hb5⟩)
    | go_in)
  all_goals first
    | (go_ret; exact ⟨rfl, after (undrew (after hb1 hb2)) hb5⟩)
    | (exfalso; omega)
    | (go_ret; refine ⟨?_, after (undrew (after hb1 hb2)) hb5⟩; show Ending.returned (Value.bool (!decide ((_ : Int) ≤ 13))) = _; rw [decide_eq_false (by omega)]; rfl)
    | (exact (HC.out ⟨by omega, by omega, by first | assumption | omega, by first | assumption | omega⟩).elim)
set_option maxHeartbeats 4000000 in
theorem scanR_000 (s t : ByteArray) (v kd : Int) (runs : ∀ w, Calls Try.prog 13 #[] w fun e w' => e = .returned (.bool true) ∧ Below w.heap.size w w') (w : World) (hs : ¬ (30 : Int) < s.size) (ht : ¬ (30 : Int) < t.size) (hc : ¬ (1 ≤ v ∧ v ≤ 16 ∧ s.size ≤ 13 ∧ t.size ≤ 13)) :
    Calls Try.prog 5 #[.string s, .string t, .int .i64 v, .int .i64 kd] w fun e w' => e = .returned (.bool true) ∧ Below w.heap.size w w' := by
  go_enter Try.func5, Try.ntmps5
  have hs2 : (0 : Int) ≤ s.size := by omega
  have hs3 : (s.size : Int) ≤ s.size := by omega
  have ht2 : (0 : Int) ≤ t.size := by omega
  have ht3 : (t.size : Int) ≤ t.size := by omega
  go_wp2
  go_region
  have HC : Hid (¬ (1 ≤ v ∧ v ≤ 16 ∧ s.size ≤ 13 ∧ t.size ≤ 13)) := hc
  clear hc
  obtain ⟨q, hq, hq9⟩ := withinV_nat kd 3 (by omega)
  have hw := within_any kd 2 (by omega) (by omega)
  rw [show ((2 : Int) + 1) = ((3 : Nat) : Int) from by omega, hq] at hw
  have F1 : Hid True := trivial
  clear hq
  go_wp2_with (first
    | (go_at_call 12; clear F1; refine (scanNew_no _ _ _ _ _ _ (fun h => HC.out h.2)).mono ?_; rintro e w1 ⟨rfl, hb1⟩)
    | (go_at_call 10; refine (hw _).mono ?_; rintro e w' ⟨rfl, rfl⟩)
    | (go_at_call 12; refine (scanNew_no _ _ _ _ _ _ (by rintro ⟨h, -⟩; omega)).mono ?_; rintro e w2 ⟨rfl, hb2⟩)
    | (go_at_call 13; refine (runs _).mono ?_; rintro e w5 ⟨rfl, hb5⟩)
    | go_in)
  all_goals first
    | (go_ret; exact ⟨rfl, after (undrew (after hb1 hb2)) hb5⟩)
    | (exfalso; omega)
    | (go_ret; refine ⟨?_, after (undrew (after hb1 hb2)) hb5⟩; show Ending.returned (Value.bool (!decide ((_ : Int) ≤ 13))) = _; rw [decide_eq_false (by omega)]; rfl)
    | (exact (HC.out ⟨by omega, by omega, by first | assumption | omega, by first | assumption | omega⟩).elim)
theorem ext30 {s : ByteArray} (h : (30 : Int) < s.size) : ¬ (s.extract 0 30).size ≤ 13 := by
  simp; omega
theorem scanR_any (s t : ByteArray) (v kd : Int) (runs : ∀ w, Calls Try.prog 13 #[] w fun e w' => e = .returned (.bool true) ∧ Below w.heap.size w w') (w : World) :
    Calls Try.prog 5 #[.string s, .string t, .int .i64 v, .int .i64 kd] w fun e w' => e = .returned (.bool true) ∧ Below w.heap.size w w' := by
  by_cases hs : (30 : Int) < s.size
  · by_cases ht : (30 : Int) < t.size
    · exact scanR_110 s t v kd runs w hs ht (fun h => ext30 hs h.2.2.1)
    · exact scanR_100 s t v kd runs w hs ht (fun h => ext30 hs h.2.2.1)
  · by_cases ht : (30 : Int) < t.size
    · exact scanR_010 s t v kd runs w hs ht (fun h => ext30 ht h.2.2.2)
    · by_cases hc : 1 ≤ v ∧ v ≤ 16 ∧ s.size ≤ 13 ∧ t.size ≤ 13
      · exact scanR_001 s t v kd runs w hs ht hc
      · exact scanR_000 s t v kd runs w hs ht hc
end Go.Proofs.Ytkdnegaecdpccaa
