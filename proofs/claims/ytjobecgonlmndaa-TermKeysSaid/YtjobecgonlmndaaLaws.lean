/-
  The laws on terms, walked: no condition beyond lengths that fit an int.
-/
import Derived.Test.YtjobecgonlmndaaCom
import Derived.Test.YtjobecgonlmndaaBase
import Derived.WalkLawsBesides
import Derived.Laws.Concat
import Derived.BigFrame
import Derived.BigRegion
import Derived.Laws.Small
import Derived.Laws.Cover1
import Derived.Laws.Slices
import Derived.Laws.Strings
namespace Go.Proofs.Ytjobecgonlmndaa
open Go.RowKit Go.WideShapes Go.ChangeShapes
set_option linter.all false
theorem after {a b c : World} (h : Below a.heap.size a b) (k : Below b.heap.size b c) : Below a.heap.size a c := h.trans (k.mono h.size)
theorem undrew {w w' : World} (hb : Below w.drew.heap.size w.drew w') : Below w.heap.size w w' := ⟨hb.os, hb.tape, hb.output, hb.size, hb.block⟩
theorem extract_le (s : ByteArray) (k : Nat) : (s.extract 0 k).size ≤ k := by simp; omega
set_option maxHeartbeats 4000000 in
theorem tells_0 (s t : ByteArray) (h9 : s.size ≤ 9223372036854775807) (h8 : t.size ≤ 9223372036854775807) (runs : ∀ w, Calls Try.prog 16 #[] w fun e w' => e = .returned (.bool true) ∧ Below w.heap.size w w') (w : World) (hs : (60 : Int) < s.size) (ht : (60 : Int) < t.size) :
    Calls Try.prog 3 #[.string s, .string t] w fun e w' => e = .returned (.bool true) ∧ Below w.heap.size w w' := by
  go_enter Try.func3, Try.ntmps3
  have hs2 : (60 : Int) ≤ s.size := by omega
  have hx1 : (s.extract 0 60).size ≤ 9223372036854775807 := by have := extract_le s 60; omega
  have hx3 : ¬ 9223372036854775807 < (s.extract 0 60).size + 1 := by have := extract_le s 60; omega
  have ht2 : (60 : Int) ≤ t.size := by omega
  have hx2 : (t.extract 0 60).size ≤ 9223372036854775807 := by have := extract_le t 60; omega
  go_wp2_with (first
        | (go_at_call 7; refine (of_any _ (by assumption) _).mono ?_; rintro e w' ⟨rfl, rfl⟩)
        | (go_at_call 8; refine (rterm_any _ (by assumption) _).mono ?_; rintro e w' ⟨rfl, rfl⟩)
        | (go_at_call 9; refine (right_any _ _).mono ?_; rintro e w' ⟨rfl, rfl⟩)
        | (go_at_call 10; refine (rightTerm_any _ (by assumption) _).mono ?_; rintro e w' ⟨rfl, rfl⟩)
        | (go_at_call 11; refine (key_any _ _).mono ?_; rintro e w' ⟨rfl, rfl⟩)
        | (go_at_call 12; refine (rkey_any _ (by assumption) _).mono ?_; rintro e w' ⟨rfl, rfl⟩)
        | (go_at_call 13; refine (common_any _ _ (by assumption) (by assumption) _).mono ?_; rintro e w1 ⟨rfl, hb1⟩)
        | (go_at_call 14; refine (rcommon_any _ _ (by assumption) (by assumption) _).mono ?_; rintro e w2 ⟨rfl, hb2⟩)
        | (go_at_call 15; refine (next_any _ (by assumption) _).mono ?_; rintro e w' ⟨rfl, rfl⟩)
        | (go_at_call 16; refine (runs _).mono ?_; rintro e w3 ⟨rfl, hb3⟩)
        | go_in)
  go_ret; exact ⟨rfl, after (after hb1 hb2) hb3⟩
set_option maxHeartbeats 4000000 in
theorem tells_1 (s t : ByteArray) (h9 : s.size ≤ 9223372036854775807) (h8 : t.size ≤ 9223372036854775807) (runs : ∀ w, Calls Try.prog 16 #[] w fun e w' => e = .returned (.bool true) ∧ Below w.heap.size w w') (w : World) (hs : (60 : Int) < s.size) (ht : ¬ (60 : Int) < t.size) :
    Calls Try.prog 3 #[.string s, .string t] w fun e w' => e = .returned (.bool true) ∧ Below w.heap.size w w' := by
  go_enter Try.func3, Try.ntmps3
  have hs2 : (60 : Int) ≤ s.size := by omega
  have hx1 : (s.extract 0 60).size ≤ 9223372036854775807 := by have := extract_le s 60; omega
  have hx3 : ¬ 9223372036854775807 < (s.extract 0 60).size + 1 := by have := extract_le s 60; omega
  go_wp2_with (first
        | (go_at_call 7; refine (of_any _ (by assumption) _).mono ?_; rintro e w' ⟨rfl, rfl⟩)
        | (go_at_call 8; refine (rterm_any _ (by assumption) _).mono ?_; rintro e w' ⟨rfl, rfl⟩)
        | (go_at_call 9; refine (right_any _ _).mono ?_; rintro e w' ⟨rfl, rfl⟩)
        | (go_at_call 10; refine (rightTerm_any _ (by assumption) _).mono ?_; rintro e w' ⟨rfl, rfl⟩)
        | (go_at_call 11; refine (key_any _ _).mono ?_; rintro e w' ⟨rfl, rfl⟩)
        | (go_at_call 12; refine (rkey_any _ (by assumption) _).mono ?_; rintro e w' ⟨rfl, rfl⟩)
        | (go_at_call 13; refine (common_any _ _ (by assumption) (by assumption) _).mono ?_; rintro e w1 ⟨rfl, hb1⟩)
        | (go_at_call 14; refine (rcommon_any _ _ (by assumption) (by assumption) _).mono ?_; rintro e w2 ⟨rfl, hb2⟩)
        | (go_at_call 15; refine (next_any _ (by assumption) _).mono ?_; rintro e w' ⟨rfl, rfl⟩)
        | (go_at_call 16; refine (runs _).mono ?_; rintro e w3 ⟨rfl, hb3⟩)
        | go_in)
  go_ret; exact ⟨rfl, after (after hb1 hb2) hb3⟩
set_option maxHeartbeats 4000000 in
theorem tells_2 (s t : ByteArray) (h9 : s.size ≤ 9223372036854775807) (h8 : t.size ≤ 9223372036854775807) (runs : ∀ w, Calls Try.prog 16 #[] w fun e w' => e = .returned (.bool true) ∧ Below w.heap.size w w') (w : World) (hs : ¬ (60 : Int) < s.size) (ht : (60 : Int) < t.size) :
    Calls Try.prog 3 #[.string s, .string t] w fun e w' => e = .returned (.bool true) ∧ Below w.heap.size w w' := by
  go_enter Try.func3, Try.ntmps3
  have hx3 : ¬ 9223372036854775807 < s.size + 1 := by omega
  have ht2 : (60 : Int) ≤ t.size := by omega
  have hx2 : (t.extract 0 60).size ≤ 9223372036854775807 := by have := extract_le t 60; omega
  go_wp2_with (first
        | (go_at_call 7; refine (of_any _ (by assumption) _).mono ?_; rintro e w' ⟨rfl, rfl⟩)
        | (go_at_call 8; refine (rterm_any _ (by assumption) _).mono ?_; rintro e w' ⟨rfl, rfl⟩)
        | (go_at_call 9; refine (right_any _ _).mono ?_; rintro e w' ⟨rfl, rfl⟩)
        | (go_at_call 10; refine (rightTerm_any _ (by assumption) _).mono ?_; rintro e w' ⟨rfl, rfl⟩)
        | (go_at_call 11; refine (key_any _ _).mono ?_; rintro e w' ⟨rfl, rfl⟩)
        | (go_at_call 12; refine (rkey_any _ (by assumption) _).mono ?_; rintro e w' ⟨rfl, rfl⟩)
        | (go_at_call 13; refine (common_any _ _ (by assumption) (by assumption) _).mono ?_; rintro e w1 ⟨rfl, hb1⟩)
        | (go_at_call 14; refine (rcommon_any _ _ (by assumption) (by assumption) _).mono ?_; rintro e w2 ⟨rfl, hb2⟩)
        | (go_at_call 15; refine (next_any _ (by assumption) _).mono ?_; rintro e w' ⟨rfl, rfl⟩)
        | (go_at_call 16; refine (runs _).mono ?_; rintro e w3 ⟨rfl, hb3⟩)
        | go_in)
  go_ret; exact ⟨rfl, after (after hb1 hb2) hb3⟩
set_option maxHeartbeats 4000000 in
theorem tells_3 (s t : ByteArray) (h9 : s.size ≤ 9223372036854775807) (h8 : t.size ≤ 9223372036854775807) (runs : ∀ w, Calls Try.prog 16 #[] w fun e w' => e = .returned (.bool true) ∧ Below w.heap.size w w') (w : World) (hs : ¬ (60 : Int) < s.size) (ht : ¬ (60 : Int) < t.size) :
    Calls Try.prog 3 #[.string s, .string t] w fun e w' => e = .returned (.bool true) ∧ Below w.heap.size w w' := by
  go_enter Try.func3, Try.ntmps3
  have hx3 : ¬ 9223372036854775807 < s.size + 1 := by omega
  go_wp2_with (first
        | (go_at_call 7; refine (of_any _ (by assumption) _).mono ?_; rintro e w' ⟨rfl, rfl⟩)
        | (go_at_call 8; refine (rterm_any _ (by assumption) _).mono ?_; rintro e w' ⟨rfl, rfl⟩)
        | (go_at_call 9; refine (right_any _ _).mono ?_; rintro e w' ⟨rfl, rfl⟩)
        | (go_at_call 10; refine (rightTerm_any _ (by assumption) _).mono ?_; rintro e w' ⟨rfl, rfl⟩)
        | (go_at_call 11; refine (key_any _ _).mono ?_; rintro e w' ⟨rfl, rfl⟩)
        | (go_at_call 12; refine (rkey_any _ (by assumption) _).mono ?_; rintro e w' ⟨rfl, rfl⟩)
        | (go_at_call 13; refine (common_any _ _ (by assumption) (by assumption) _).mono ?_; rintro e w1 ⟨rfl, hb1⟩)
        | (go_at_call 14; refine (rcommon_any _ _ (by assumption) (by assumption) _).mono ?_; rintro e w2 ⟨rfl, hb2⟩)
        | (go_at_call 15; refine (next_any _ (by assumption) _).mono ?_; rintro e w' ⟨rfl, rfl⟩)
        | (go_at_call 16; refine (runs _).mono ?_; rintro e w3 ⟨rfl, hb3⟩)
        | go_in)
  go_ret; exact ⟨rfl, after (after hb1 hb2) hb3⟩
theorem tells_any (s t : ByteArray) (h9 : s.size ≤ 9223372036854775807) (h8 : t.size ≤ 9223372036854775807) (runs : ∀ w, Calls Try.prog 16 #[] w fun e w' => e = .returned (.bool true) ∧ Below w.heap.size w w') (w : World) :
    Calls Try.prog 3 #[.string s, .string t] w fun e w' => e = .returned (.bool true) ∧ Below w.heap.size w w' := by
  by_cases hs : (60 : Int) < s.size
  · by_cases ht : (60 : Int) < t.size
    · exact tells_0 s t h9 h8 runs w hs ht
    · exact tells_1 s t h9 h8 runs w hs ht
  · by_cases ht : (60 : Int) < t.size
    · exact tells_2 s t h9 h8 runs w hs ht
    · exact tells_3 s t h9 h8 runs w hs ht
@[go_sem ↓] theorem min60_hi {P : Program} {w : World} (ts : Array TypeId) (t : TypeId) (n : Int) (h : 60 < n) : (Builtin.min_ ts t #[.int .i64 n, .int .i64 60]).run P w = .ok (.int .i64 60) w := by
  rw [run_min_int2, if_pos h]
@[go_sem ↓] theorem min60_lo {P : Program} {w : World} (ts : Array TypeId) (t : TypeId) (n : Int) (h : ¬ 60 < n) : (Builtin.min_ ts t #[.int .i64 n, .int .i64 60]).run P w = .ok (.int .i64 n) w := by
  rw [run_min_int2, if_neg h]
theorem comB_le (s t : ByteArray) : comB s t ≤ s.size := by have := com_le s.data.toList t.data.toList; rwa [len_list] at this
theorem comB_le' (s t : ByteArray) : comB s t ≤ t.size := by rw [comB_comm]; exact comB_le t s
theorem comB_self (s : ByteArray) : comB s s = s.size := by
  have := com_append s.data.toList []
  rw [List.append_nil, len_list] at this; exact this
theorem comB_app (s t : ByteArray) : comB s (s ++ t) = s.size := by
  have := com_append s.data.toList t.data.toList
  rw [len_list] at this
  unfold comB
  rw [ByteArray.data_append, Array.toList_append]; exact this
theorem comB_none (t : ByteArray) : comB ⟨#[]⟩ t = 0 := by unfold comB; cases t.data.toList <;> rfl
theorem comB_cut (s t : ByteArray) : (s.extract 0 (comB s t)).toList = (t.extract 0 (comB s t)).toList := by
  have := com_take s.data.toList t.data.toList
  rw [ByteArray.toList_eq, ByteArray.toList_eq, ByteArray.data_extract, ByteArray.data_extract, Array.toList_extract, Array.toList_extract]
  simpa [comB] using this
theorem comB_ne (s t : ByteArray) (h1 : comB s t < s.size) (h2 : comB s t < t.size) : ¬ (s[comB s t]'h1).toNat = (t[comB s t]'h2).toNat := by
  have := com_ne s.data.toList t.data.toList (by rw [len_list]; exact h1) (by rw [len_list]; exact h2)
  intro e
  apply this
  have e1 := get_list? s _ h1
  have e2 := get_list? t _ h2
  unfold comB at e1 e2 e
  rw [e1, e2, UInt8.toNat_inj.1 e]
set_option maxHeartbeats 16000000 in
theorem common_0 (s t : ByteArray) (runs : ∀ w, Calls Try.prog 16 #[] w fun e w' => e = .returned (.bool true) ∧ Below w.heap.size w w') (w : World) (hs : (60 : Int) < s.size) (ht : (60 : Int) < t.size) :
    Calls Try.prog 6 #[.string s, .string t] w fun e w' => e = .returned (.bool true) ∧ Below w.heap.size w w' := by
  go_enter Try.func6, Try.ntmps6
  have hs2 : (60 : Int) ≤ s.size := by omega
  have ht2 : (60 : Int) ≤ t.size := by omega
  go_wp2
  go_region
  obtain ⟨x, hx⟩ : ∃ x, x = s.extract 0 60 := ⟨_, rfl⟩
  obtain ⟨y, hy⟩ : ∃ y, y = t.extract 0 60 := ⟨_, rfl⟩
  have hxs : x.size ≤ 60 := by rw [hx]; exact extract_le _ _
  have hys : y.size ≤ 60 := by rw [hy]; exact extract_le _ _
  try rw [← hx]
  try rw [← hy]
  have g1 : x.size ≤ 9223372036854775807 := by omega
  have g2 : y.size ≤ 9223372036854775807 := by omega
  have b1 := comB_le x y
  have b2 := comB_le' x y
  have e1 := comB_cut x y
  have e2 := comB_ne x y
  have e3 := comB_app x y
  have e4 := comB_self x
  have e5 := comB_comm y x
  have e6 := comB_none y
  have g3 : (x ++ y).size ≤ 9223372036854775807 := by rw [ByteArray.size_append]; omega
  clear hx hy
  go_wp2_with (first
    | (go_at_call 13; refine (common_any _ _ (by assumption) (by assumption) _).mono ?_; rintro e w1 ⟨rfl, hb1⟩)
    | go_in)
  replace hb1 := undrew hb1
  have f0 : ¬ ((comB x y : Int) < 0) := by omega
  have f1 : ¬ (x.size < comB x y) := by omega
  have f2 : ¬ (y.size < comB x y) := by omega
  have g4 : ¬ 9223372036854775807 < x.size + y.size := by omega
  have g5 : (⟨#[]⟩ : ByteArray).size ≤ 9223372036854775807 := by decide
  have E3 : Hid (comB x (x ++ y) = x.size) := e3
  have E4 : Hid (comB x x = x.size) := e4
  have E5 : Hid (comB y x = comB x y) := e5
  have E6 : Hid (comB ⟨#[]⟩ y = 0) := e6
  clear e3 e4 e5 e6
  by_cases k1 : comB x y < x.size
  · by_cases k2 : comB x y < y.size
    · have e7 : ¬ (x[comB x y]'k1).toNat = (y[comB x y]'k2).toNat := e2 k1 k2
      clear e2
      go_region
      go_wp2_with (first
        | (go_at_call 13; refine (common_any _ _ (by assumption) (by assumption) _).mono ?_; rintro e w2 ⟨rfl, hb2⟩; (first | (rw [E5.out]) | (rw [E4.out]) | (rw [E3.out]) | (rw [E6.out])); (first | replace hb1 := after hb1 hb2 | replace hb1 := after hb1 (undrew hb2)); clear hb2)
        | (go_at_call 16; refine (runs _).mono ?_; rintro e w6 ⟨rfl, hb6⟩)
        | go_in)
      go_ret; exact ⟨rfl, after hb1 hb6⟩
    · clear e2
      go_region
      go_wp2_with (first
        | (go_at_call 13; refine (common_any _ _ (by assumption) (by assumption) _).mono ?_; rintro e w2 ⟨rfl, hb2⟩; (first | (rw [E5.out]) | (rw [E4.out]) | (rw [E3.out]) | (rw [E6.out])); (first | replace hb1 := after hb1 hb2 | replace hb1 := after hb1 (undrew hb2)); clear hb2)
        | (go_at_call 16; refine (runs _).mono ?_; rintro e w6 ⟨rfl, hb6⟩)
        | go_in)
      go_ret; exact ⟨rfl, after hb1 hb6⟩
  · clear e2
    go_region
    go_wp2_with (first
      | (go_at_call 13; refine (common_any _ _ (by assumption) (by assumption) _).mono ?_; rintro e w2 ⟨rfl, hb2⟩; (first | (rw [E5.out]) | (rw [E4.out]) | (rw [E3.out]) | (rw [E6.out])); (first | replace hb1 := after hb1 hb2 | replace hb1 := after hb1 (undrew hb2)); clear hb2)
      | (go_at_call 16; refine (runs _).mono ?_; rintro e w6 ⟨rfl, hb6⟩)
      | go_in)
    go_ret; exact ⟨rfl, after hb1 hb6⟩
set_option maxHeartbeats 16000000 in
theorem common_1 (s t : ByteArray) (runs : ∀ w, Calls Try.prog 16 #[] w fun e w' => e = .returned (.bool true) ∧ Below w.heap.size w w') (w : World) (hs : (60 : Int) < s.size) (ht : ¬ (60 : Int) < t.size) :
    Calls Try.prog 6 #[.string s, .string t] w fun e w' => e = .returned (.bool true) ∧ Below w.heap.size w w' := by
  go_enter Try.func6, Try.ntmps6
  have hs2 : (60 : Int) ≤ s.size := by omega
  have ht2 : (0 : Int) ≤ t.size := by omega
  have ht3 : (t.size : Int) ≤ t.size := by omega
  go_wp2
  go_region
  obtain ⟨x, hx⟩ : ∃ x, x = s.extract 0 60 := ⟨_, rfl⟩
  obtain ⟨y, hy⟩ : ∃ y, y = t := ⟨_, rfl⟩
  have hxs : x.size ≤ 60 := by rw [hx]; exact extract_le _ _
  have hys : y.size ≤ 60 := by rw [hy]; omega
  try rw [← hx]
  try rw [← hy]
  have g1 : x.size ≤ 9223372036854775807 := by omega
  have g2 : y.size ≤ 9223372036854775807 := by omega
  have b1 := comB_le x y
  have b2 := comB_le' x y
  have e1 := comB_cut x y
  have e2 := comB_ne x y
  have e3 := comB_app x y
  have e4 := comB_self x
  have e5 := comB_comm y x
  have e6 := comB_none y
  have g3 : (x ++ y).size ≤ 9223372036854775807 := by rw [ByteArray.size_append]; omega
  clear hx hy
  go_wp2_with (first
    | (go_at_call 13; refine (common_any _ _ (by assumption) (by assumption) _).mono ?_; rintro e w1 ⟨rfl, hb1⟩)
    | go_in)
  replace hb1 := undrew hb1
  have f0 : ¬ ((comB x y : Int) < 0) := by omega
  have f1 : ¬ (x.size < comB x y) := by omega
  have f2 : ¬ (y.size < comB x y) := by omega
  have g4 : ¬ 9223372036854775807 < x.size + y.size := by omega
  have g5 : (⟨#[]⟩ : ByteArray).size ≤ 9223372036854775807 := by decide
  have E3 : Hid (comB x (x ++ y) = x.size) := e3
  have E4 : Hid (comB x x = x.size) := e4
  have E5 : Hid (comB y x = comB x y) := e5
  have E6 : Hid (comB ⟨#[]⟩ y = 0) := e6
  clear e3 e4 e5 e6
  by_cases k1 : comB x y < x.size
  · by_cases k2 : comB x y < y.size
    · have e7 : ¬ (x[comB x y]'k1).toNat = (y[comB x y]'k2).toNat := e2 k1 k2
      clear e2
      go_region
      go_wp2_with (first
        | (go_at_call 13; refine (common_any _ _ (by assumption) (by assumption) _).mono ?_; rintro e w2 ⟨rfl, hb2⟩; (first | (rw [E5.out]) | (rw [E4.out]) | (rw [E3.out]) | (rw [E6.out])); (first | replace hb1 := after hb1 hb2 | replace hb1 := after hb1 (undrew hb2)); clear hb2)
        | (go_at_call 16; refine (runs _).mono ?_; rintro e w6 ⟨rfl, hb6⟩)
        | go_in)
      go_ret; exact ⟨rfl, after hb1 hb6⟩
    · clear e2
      go_region
      go_wp2_with (first
        | (go_at_call 13; refine (common_any _ _ (by assumption) (by assumption) _).mono ?_; rintro e w2 ⟨rfl, hb2⟩; (first | (rw [E5.out]) | (rw [E4.out]) | (rw [E3.out]) | (rw [E6.out])); (first | replace hb1 := after hb1 hb2 | replace hb1 := after hb1 (undrew hb2)); clear hb2)
        | (go_at_call 16; refine (runs _).mono ?_; rintro e w6 ⟨rfl, hb6⟩)
        | go_in)
      go_ret; exact ⟨rfl, after hb1 hb6⟩
  · clear e2
    go_region
    go_wp2_with (first
      | (go_at_call 13; refine (common_any _ _ (by assumption) (by assumption) _).mono ?_; rintro e w2 ⟨rfl, hb2⟩; (first | (rw [E5.out]) | (rw [E4.out]) | (rw [E3.out]) | (rw [E6.out])); (first | replace hb1 := after hb1 hb2 | replace hb1 := after hb1 (undrew hb2)); clear hb2)
      | (go_at_call 16; refine (runs _).mono ?_; rintro e w6 ⟨rfl, hb6⟩)
      | go_in)
    go_ret; exact ⟨rfl, after hb1 hb6⟩
set_option maxHeartbeats 16000000 in
theorem common_2 (s t : ByteArray) (runs : ∀ w, Calls Try.prog 16 #[] w fun e w' => e = .returned (.bool true) ∧ Below w.heap.size w w') (w : World) (hs : ¬ (60 : Int) < s.size) (ht : (60 : Int) < t.size) :
    Calls Try.prog 6 #[.string s, .string t] w fun e w' => e = .returned (.bool true) ∧ Below w.heap.size w w' := by
  go_enter Try.func6, Try.ntmps6
  have hs2 : (0 : Int) ≤ s.size := by omega
  have hs3 : (s.size : Int) ≤ s.size := by omega
  have ht2 : (60 : Int) ≤ t.size := by omega
  go_wp2
  go_region
  obtain ⟨x, hx⟩ : ∃ x, x = s := ⟨_, rfl⟩
  obtain ⟨y, hy⟩ : ∃ y, y = t.extract 0 60 := ⟨_, rfl⟩
  have hxs : x.size ≤ 60 := by rw [hx]; omega
  have hys : y.size ≤ 60 := by rw [hy]; exact extract_le _ _
  try rw [← hx]
  try rw [← hy]
  have g1 : x.size ≤ 9223372036854775807 := by omega
  have g2 : y.size ≤ 9223372036854775807 := by omega
  have b1 := comB_le x y
  have b2 := comB_le' x y
  have e1 := comB_cut x y
  have e2 := comB_ne x y
  have e3 := comB_app x y
  have e4 := comB_self x
  have e5 := comB_comm y x
  have e6 := comB_none y
  have g3 : (x ++ y).size ≤ 9223372036854775807 := by rw [ByteArray.size_append]; omega
  clear hx hy
  go_wp2_with (first
    | (go_at_call 13; refine (common_any _ _ (by assumption) (by assumption) _).mono ?_; rintro e w1 ⟨rfl, hb1⟩)
    | go_in)
  replace hb1 := undrew hb1
  have f0 : ¬ ((comB x y : Int) < 0) := by omega
  have f1 : ¬ (x.size < comB x y) := by omega
  have f2 : ¬ (y.size < comB x y) := by omega
  have g4 : ¬ 9223372036854775807 < x.size + y.size := by omega
  have g5 : (⟨#[]⟩ : ByteArray).size ≤ 9223372036854775807 := by decide
  have E3 : Hid (comB x (x ++ y) = x.size) := e3
  have E4 : Hid (comB x x = x.size) := e4
  have E5 : Hid (comB y x = comB x y) := e5
  have E6 : Hid (comB ⟨#[]⟩ y = 0) := e6
  clear e3 e4 e5 e6
  by_cases k1 : comB x y < x.size
  · by_cases k2 : comB x y < y.size
    · have e7 : ¬ (x[comB x y]'k1).toNat = (y[comB x y]'k2).toNat := e2 k1 k2
      clear e2
      go_region
      go_wp2_with (first
        | (go_at_call 13; refine (common_any _ _ (by assumption) (by assumption) _).mono ?_; rintro e w2 ⟨rfl, hb2⟩; (first | (rw [E5.out]) | (rw [E4.out]) | (rw [E3.out]) | (rw [E6.out])); (first | replace hb1 := after hb1 hb2 | replace hb1 := after hb1 (undrew hb2)); clear hb2)
        | (go_at_call 16; refine (runs _).mono ?_; rintro e w6 ⟨rfl, hb6⟩)
        | go_in)
      go_ret; exact ⟨rfl, after hb1 hb6⟩
    · clear e2
      go_region
      go_wp2_with (first
        | (go_at_call 13; refine (common_any _ _ (by assumption) (by assumption) _).mono ?_; rintro e w2 ⟨rfl, hb2⟩; (first | (rw [E5.out]) | (rw [E4.out]) | (rw [E3.out]) | (rw [E6.out])); (first | replace hb1 := after hb1 hb2 | replace hb1 := after hb1 (undrew hb2)); clear hb2)
        | (go_at_call 16; refine (runs _).mono ?_; rintro e w6 ⟨rfl, hb6⟩)
        | go_in)
      go_ret; exact ⟨rfl, after hb1 hb6⟩
  · clear e2
    go_region
    go_wp2_with (first
      | (go_at_call 13; refine (common_any _ _ (by assumption) (by assumption) _).mono ?_; rintro e w2 ⟨rfl, hb2⟩; (first | (rw [E5.out]) | (rw [E4.out]) | (rw [E3.out]) | (rw [E6.out])); (first | replace hb1 := after hb1 hb2 | replace hb1 := after hb1 (undrew hb2)); clear hb2)
      | (go_at_call 16; refine (runs _).mono ?_; rintro e w6 ⟨rfl, hb6⟩)
      | go_in)
    go_ret; exact ⟨rfl, after hb1 hb6⟩
set_option maxHeartbeats 16000000 in
theorem common_3 (s t : ByteArray) (runs : ∀ w, Calls Try.prog 16 #[] w fun e w' => e = .returned (.bool true) ∧ Below w.heap.size w w') (w : World) (hs : ¬ (60 : Int) < s.size) (ht : ¬ (60 : Int) < t.size) :
    Calls Try.prog 6 #[.string s, .string t] w fun e w' => e = .returned (.bool true) ∧ Below w.heap.size w w' := by
  go_enter Try.func6, Try.ntmps6
  have hs2 : (0 : Int) ≤ s.size := by omega
  have hs3 : (s.size : Int) ≤ s.size := by omega
  have ht2 : (0 : Int) ≤ t.size := by omega
  have ht3 : (t.size : Int) ≤ t.size := by omega
  go_wp2
  go_region
  obtain ⟨x, hx⟩ : ∃ x, x = s := ⟨_, rfl⟩
  obtain ⟨y, hy⟩ : ∃ y, y = t := ⟨_, rfl⟩
  have hxs : x.size ≤ 60 := by rw [hx]; omega
  have hys : y.size ≤ 60 := by rw [hy]; omega
  try rw [← hx]
  try rw [← hy]
  have g1 : x.size ≤ 9223372036854775807 := by omega
  have g2 : y.size ≤ 9223372036854775807 := by omega
  have b1 := comB_le x y
  have b2 := comB_le' x y
  have e1 := comB_cut x y
  have e2 := comB_ne x y
  have e3 := comB_app x y
  have e4 := comB_self x
  have e5 := comB_comm y x
  have e6 := comB_none y
  have g3 : (x ++ y).size ≤ 9223372036854775807 := by rw [ByteArray.size_append]; omega
  clear hx hy
  go_wp2_with (first
    | (go_at_call 13; refine (common_any _ _ (by assumption) (by assumption) _).mono ?_; rintro e w1 ⟨rfl, hb1⟩)
    | go_in)
  replace hb1 := undrew hb1
  have f0 : ¬ ((comB x y : Int) < 0) := by omega
  have f1 : ¬ (x.size < comB x y) := by omega
  have f2 : ¬ (y.size < comB x y) := by omega
  have g4 : ¬ 9223372036854775807 < x.size + y.size := by omega
  have g5 : (⟨#[]⟩ : ByteArray).size ≤ 9223372036854775807 := by decide
  have E3 : Hid (comB x (x ++ y) = x.size) := e3
  have E4 : Hid (comB x x = x.size) := e4
  have E5 : Hid (comB y x = comB x y) := e5
  have E6 : Hid (comB ⟨#[]⟩ y = 0) := e6
  clear e3 e4 e5 e6
  by_cases k1 : comB x y < x.size
  · by_cases k2 : comB x y < y.size
    · have e7 : ¬ (x[comB x y]'k1).toNat = (y[comB x y]'k2).toNat := e2 k1 k2
      clear e2
      go_region
      go_wp2_with (first
        | (go_at_call 13; refine (common_any _ _ (by assumption) (by assumption) _).mono ?_; rintro e w2 ⟨rfl, hb2⟩; (first | (rw [E5.out]) | (rw [E4.out]) | (rw [E3.out]) | (rw [E6.out])); (first | replace hb1 := after hb1 hb2 | replace hb1 := after hb1 (undrew hb2)); clear hb2)
        | (go_at_call 16; refine (runs _).mono ?_; rintro e w6 ⟨rfl, hb6⟩)
        | go_in)
      go_ret; exact ⟨rfl, after hb1 hb6⟩
    · clear e2
      go_region
      go_wp2_with (first
        | (go_at_call 13; refine (common_any _ _ (by assumption) (by assumption) _).mono ?_; rintro e w2 ⟨rfl, hb2⟩; (first | (rw [E5.out]) | (rw [E4.out]) | (rw [E3.out]) | (rw [E6.out])); (first | replace hb1 := after hb1 hb2 | replace hb1 := after hb1 (undrew hb2)); clear hb2)
        | (go_at_call 16; refine (runs _).mono ?_; rintro e w6 ⟨rfl, hb6⟩)
        | go_in)
      go_ret; exact ⟨rfl, after hb1 hb6⟩
  · clear e2
    go_region
    go_wp2_with (first
      | (go_at_call 13; refine (common_any _ _ (by assumption) (by assumption) _).mono ?_; rintro e w2 ⟨rfl, hb2⟩; (first | (rw [E5.out]) | (rw [E4.out]) | (rw [E3.out]) | (rw [E6.out])); (first | replace hb1 := after hb1 hb2 | replace hb1 := after hb1 (undrew hb2)); clear hb2)
      | (go_at_call 16; refine (runs _).mono ?_; rintro e w6 ⟨rfl, hb6⟩)
      | go_in)
    go_ret; exact ⟨rfl, after hb1 hb6⟩
theorem commons_any (s t : ByteArray) (runs : ∀ w, Calls Try.prog 16 #[] w fun e w' => e = .returned (.bool true) ∧ Below w.heap.size w w') (w : World) :
    Calls Try.prog 6 #[.string s, .string t] w fun e w' => e = .returned (.bool true) ∧ Below w.heap.size w w' := by
  by_cases hs : (60 : Int) < s.size
  · by_cases ht : (60 : Int) < t.size
    · exact common_0 s t runs w hs ht
    · exact common_1 s t runs w hs ht
  · by_cases ht : (60 : Int) < t.size
    · exact common_2 s t runs w hs ht
    · exact common_3 s t runs w hs ht
theorem rightL_mid (x y : ByteArray) : rightL ((x ++ ⟨#[0]⟩) ++ y).data.toList = false := by
  unfold rightL nz
  rw [ByteArray.data_append, Array.toList_append, ByteArray.data_append, Array.toList_append]
  simp
theorem rightL_nil : rightL (⟨#[]⟩ : ByteArray).data.toList = false := rfl
theorem rightL_long (x y : ByteArray) (h : 12 < y.size) : rightL (x ++ y).data.toList = false := by
  unfold rightL
  rw [len_list, decide_eq_false (by rw [ByteArray.size_append]; omega : ¬ (x ++ y).size ≤ 12)]
  cases decide (1 ≤ (x ++ y).size) <;> rfl
theorem keyB_no {x : ByteArray} (h : rightL x.data.toList = false) : keyB x = ⟨#[]⟩ := by simp [keyB, h]
theorem ofOk_end {x : ByteArray} (h : ofOk x = true) : ∃ h0 : 0 < x.size, (x[x.size - 1] : UInt8) = 0 := by
  unfold ofOk at h
  rw [Bool.and_eq_true] at h
  have h0 : 0 < x.size := by
    by_cases h0 : x.size = 0
    · rw [endB_nil x h0] at h; cases h.1
    · omega
  exact ⟨h0, by have := h.1; rw [endB_eq x h0] at this; simpa using this⟩
set_option maxHeartbeats 16000000 in
theorem none_0 (s : ByteArray) (at_ : Int) (runs : ∀ w, Calls Try.prog 16 #[] w fun e w' => e = .returned (.bool true) ∧ Below w.heap.size w w') (w : World) (hs : (40 : Int) < s.size) :
    Calls Try.prog 5 #[.string s, .int .i64 at_] w fun e w' => e = .returned (.bool true) ∧ Below w.heap.size w w' := by
  go_enter Try.func5, Try.ntmps5
  have hs2 : (40 : Int) ≤ s.size := by omega
  obtain ⟨x, hx⟩ : ∃ x, x = s.extract 0 40 := ⟨_, rfl⟩
  have hz : ((min 40 s.size : Nat) : Int) = x.size := by rw [hx]; simp
  have hxs : x.size ≤ 40 := by rw [hx]; exact extract_le _ _
  obtain ⟨k, hk, hk9⟩ := withinV_nat at_ (x.size + 1) (by omega)
  have hw : ∀ w, Calls Try.prog 17 #[.int .i64 at_, .int .i64 0, .int .i64 ((min 40 s.size : Nat) : Int)] w fun e w' => e = .returned (.int .i64 k) ∧ w' = w := by
    intro w
    have h := within_any at_ x.size (by omega) (by omega) w
    rw [show ((x.size : Int) + 1) = ((x.size + 1 : Nat) : Int) from by omega, hk, ← hz] at h
    exact h.mono fun e w' q => ⟨q.1, q.2.symm⟩
  have HX : Hid (x = s.extract 0 40) := hx
  have q1 : k ≤ x.size := by omega
  have q2 : (0 : Int) ≤ k := by omega
  have q3 : (k : Int) ≤ x.size := by omega
  clear hz hx hk
  go_wp2_with (first
    | (go_at_call 17; refine (hw _).mono ?_; rintro e w1 ⟨rfl, rfl⟩)
    | go_in)
  rw [← HX.out]
  clear hw
  go_region
  obtain ⟨n, hn⟩ : ∃ n, n = x.extract 0 k ++ { data := #[0] } ++ x.extract k x.size := ⟨_, rfl⟩
  rw [← hn]
  have r1 : rightL n.data.toList = false := by rw [hn]; exact rightL_mid _ _
  have R1 : Hid (rightL n.data.toList = false) := r1
  have R2 : Hid (rightL (⟨#[]⟩ : ByteArray).data.toList = false) := rfl
  have r3 : rightL (x ++ ⟨#[48, 49, 50, 51, 52, 53, 54, 55, 56, 57, 97, 98, 99]⟩).data.toList = false := rightL_long _ _ (by decide)
  have R3 : Hid (rightL (x ++ ⟨#[48, 49, 50, 51, 52, 53, 54, 55, 56, 57, 97, 98, 99]⟩).data.toList = false) := r3
  have K1 : Hid (keyB n = ⟨#[]⟩) := keyB_no r1
  have K3 : Hid (keyB (x ++ ⟨#[48, 49, 50, 51, 52, 53, 54, 55, 56, 57, 97, 98, 99]⟩) = ⟨#[]⟩) := keyB_no r3
  have g1 : x.size ≤ 9223372036854775807 := by omega
  have g2 : ¬ 9223372036854775807 < x.size + 13 := by omega
  clear hn r1 r3 HX
  cases hof : ofOk x with
  | false =>
    have EO : Hid (ofOk x = false) := hof
    clear hof
    go_wp2_with (first
      | (go_at_call 7; refine (of_any _ (by assumption) _).mono ?_; rintro e w' ⟨rfl, rfl⟩; rw [EO.out])
      | (go_at_call 9; refine (right_any _ _).mono ?_; rintro e w' ⟨rfl, rfl⟩; first | rw [R1.out] | rw [R2.out] | rw [R3.out])
      | (go_at_call 11; refine (key_any _ _).mono ?_; rintro e w' ⟨rfl, rfl⟩; first | rw [K1.out] | rw [K3.out])
      | (go_at_call 16; refine (runs _).mono ?_; rintro e w6 ⟨rfl, hb6⟩)
      | go_in)
    go_ret; exact ⟨rfl, undrew hb6⟩
  | true =>
    obtain ⟨h0, h1⟩ := ofOk_end hof
    have EO : Hid (ofOk x = true) := hof
    have h2 : (0 : Int) < x.size := by omega
    have h3 : x.size - 1 < x.size := by omega
    have h4 : (x.size : Int) - 1 = ((x.size - 1 : Nat) : Int) := by omega
    clear hof
    go_wp2_with (first
      | (go_at_call 7; refine (of_any _ (by assumption) _).mono ?_; rintro e w' ⟨rfl, rfl⟩; rw [EO.out])
      | (go_at_call 9; refine (right_any _ _).mono ?_; rintro e w' ⟨rfl, rfl⟩; first | rw [R1.out] | rw [R2.out] | rw [R3.out])
      | (go_at_call 11; refine (key_any _ _).mono ?_; rintro e w' ⟨rfl, rfl⟩; first | rw [K1.out] | rw [K3.out])
      | (go_at_call 16; refine (runs _).mono ?_; rintro e w6 ⟨rfl, hb6⟩)
      | go_in)
    all_goals first
      | (go_ret; exact ⟨rfl, undrew hb6⟩)
set_option maxHeartbeats 16000000 in
theorem none_1 (s : ByteArray) (at_ : Int) (runs : ∀ w, Calls Try.prog 16 #[] w fun e w' => e = .returned (.bool true) ∧ Below w.heap.size w w') (w : World) (hs : ¬ (40 : Int) < s.size) :
    Calls Try.prog 5 #[.string s, .int .i64 at_] w fun e w' => e = .returned (.bool true) ∧ Below w.heap.size w w' := by
  go_enter Try.func5, Try.ntmps5
  obtain ⟨x, hx⟩ : ∃ x, x = s := ⟨_, rfl⟩
  have hz : (s.size : Int) = x.size := by rw [hx]
  have hxs : x.size ≤ 40 := by rw [hx]; omega
  obtain ⟨k, hk, hk9⟩ := withinV_nat at_ (x.size + 1) (by omega)
  have hw : ∀ w, Calls Try.prog 17 #[.int .i64 at_, .int .i64 0, .int .i64 (s.size : Int)] w fun e w' => e = .returned (.int .i64 k) ∧ w' = w := by
    intro w
    have h := within_any at_ x.size (by omega) (by omega) w
    rw [show ((x.size : Int) + 1) = ((x.size + 1 : Nat) : Int) from by omega, hk, ← hz] at h
    exact h.mono fun e w' q => ⟨q.1, q.2.symm⟩
  have HX : Hid (x = s) := hx
  have q1 : k ≤ x.size := by omega
  have q2 : (0 : Int) ≤ k := by omega
  have q3 : (k : Int) ≤ x.size := by omega
  clear hz hx hk
  go_wp2_with (first
    | (go_at_call 17; refine (hw _).mono ?_; rintro e w1 ⟨rfl, rfl⟩)
    | go_in)
  rw [← HX.out]
  clear hw
  go_region
  obtain ⟨n, hn⟩ : ∃ n, n = x.extract 0 k ++ { data := #[0] } ++ x.extract k x.size := ⟨_, rfl⟩
  rw [← hn]
  have r1 : rightL n.data.toList = false := by rw [hn]; exact rightL_mid _ _
  have R1 : Hid (rightL n.data.toList = false) := r1
  have R2 : Hid (rightL (⟨#[]⟩ : ByteArray).data.toList = false) := rfl
  have r3 : rightL (x ++ ⟨#[48, 49, 50, 51, 52, 53, 54, 55, 56, 57, 97, 98, 99]⟩).data.toList = false := rightL_long _ _ (by decide)
  have R3 : Hid (rightL (x ++ ⟨#[48, 49, 50, 51, 52, 53, 54, 55, 56, 57, 97, 98, 99]⟩).data.toList = false) := r3
  have K1 : Hid (keyB n = ⟨#[]⟩) := keyB_no r1
  have K3 : Hid (keyB (x ++ ⟨#[48, 49, 50, 51, 52, 53, 54, 55, 56, 57, 97, 98, 99]⟩) = ⟨#[]⟩) := keyB_no r3
  have g1 : x.size ≤ 9223372036854775807 := by omega
  have g2 : ¬ 9223372036854775807 < x.size + 13 := by omega
  clear hn r1 r3 HX
  cases hof : ofOk x with
  | false =>
    have EO : Hid (ofOk x = false) := hof
    clear hof
    go_wp2_with (first
      | (go_at_call 7; refine (of_any _ (by assumption) _).mono ?_; rintro e w' ⟨rfl, rfl⟩; rw [EO.out])
      | (go_at_call 9; refine (right_any _ _).mono ?_; rintro e w' ⟨rfl, rfl⟩; first | rw [R1.out] | rw [R2.out] | rw [R3.out])
      | (go_at_call 11; refine (key_any _ _).mono ?_; rintro e w' ⟨rfl, rfl⟩; first | rw [K1.out] | rw [K3.out])
      | (go_at_call 16; refine (runs _).mono ?_; rintro e w6 ⟨rfl, hb6⟩)
      | go_in)
    go_ret; exact ⟨rfl, undrew hb6⟩
  | true =>
    obtain ⟨h0, h1⟩ := ofOk_end hof
    have EO : Hid (ofOk x = true) := hof
    have h2 : (0 : Int) < x.size := by omega
    have h3 : x.size - 1 < x.size := by omega
    have h4 : (x.size : Int) - 1 = ((x.size - 1 : Nat) : Int) := by omega
    clear hof
    go_wp2_with (first
      | (go_at_call 7; refine (of_any _ (by assumption) _).mono ?_; rintro e w' ⟨rfl, rfl⟩; rw [EO.out])
      | (go_at_call 9; refine (right_any _ _).mono ?_; rintro e w' ⟨rfl, rfl⟩; first | rw [R1.out] | rw [R2.out] | rw [R3.out])
      | (go_at_call 11; refine (key_any _ _).mono ?_; rintro e w' ⟨rfl, rfl⟩; first | rw [K1.out] | rw [K3.out])
      | (go_at_call 16; refine (runs _).mono ?_; rintro e w6 ⟨rfl, hb6⟩)
      | go_in)
    all_goals first
      | (go_ret; exact ⟨rfl, undrew hb6⟩)
theorem none_any (s : ByteArray) (at_ : Int) (runs : ∀ w, Calls Try.prog 16 #[] w fun e w' => e = .returned (.bool true) ∧ Below w.heap.size w w') (w : World) :
    Calls Try.prog 5 #[.string s, .int .i64 at_] w fun e w' => e = .returned (.bool true) ∧ Below w.heap.size w w' := by
  by_cases hs : (40 : Int) < s.size
  · exact none_0 s at_ runs w hs
  · exact none_1 s at_ runs w hs
end Go.Proofs.Ytjobecgonlmndaa
