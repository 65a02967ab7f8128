/-
  The law PackTells at any text, words, length; no condition beyond lengths that fit an int.
-/
import Derived.Test.YtdkokpaboipamaaPkH
namespace Go.Proofs.Ytdkokpaboipamaa
open Go.RowKit Go.WideShapes Go.ChangeShapes
set_option linter.all false
set_option maxHeartbeats 3200000 in
theorem tells_neg00 (s0 s : ByteArray) (A : Option Addr) (n0 n c : Nat) (m : Int) (xs : List Int) (runs : ∀ w, Calls Try.prog 17 #[] w fun e w' => e = .returned (.bool true) ∧ Below w.heap.size w w') (w : World)
    (HX : True) (hs0 : True) (hs : s.size ≤ 300) (hn0 : True) (hx : Reads w w.heap.size 1 A n (u64s xs)) (hn : n ≤ 60) (h64 : W64 xs) (hbad : m < 0 ∨ 8 * (n : Int) < m) (h0 : m ≤ 0) :
    Calls Try.prog 3 #[.string s, .slice A n c, .int .i64 m] w fun e w' => e = .returned (.bool true) ∧ Below w.heap.size w w' := by
  have LX : Hid (xs.length = n) := hx.u64
  have hs' : ¬ (300 : Int) < s.size := by omega
  have hn' : ¬ (60 : Int) < n := by omega
  have HC : Hid (cntI m = 0) := if_pos h0
  go_enter Try.func3, Try.ntmps3
  go_wp2_with (first
    | (go_at_call 9; refine (roomy_any A n c xs 7 _ hx (by omega)).mono ?_; rintro e w1 ⟨rfl, hw1, hb1⟩; unfold sl; rw [LX.out])
    | (go_at_call 10; refine (pbytes_bad _ n _ m _ (by omega) hbad).mono ?_; rintro e w2 ⟨rfl, hq2⟩; have hb2 : Below w1.heap.size w1 w2 := (by rw [hq2]; exact Below.refl _ _); clear hq2; unfold badV)
    | (go_at_call 11; refine (rbytes_bad A n c m _ (by omega) hbad).mono ?_; rintro e w3 ⟨rfl, hq3⟩; have hb3 : Below w2.heap.size w2 w3 := (by rw [hq3]; exact Below.refl _ _); clear hq3; unfold badV)
    | (go_at_call 13; refine (pwords_any s _ (by omega)).mono ?_; rintro e w4 ⟨rfl, ho4, hb4⟩; have hw4 := own_wb ho4; clear ho4; unfold sl)
    | (go_at_call 14; refine (rwords_any s _ (by omega)).mono ?_; rintro e w5 ⟨rfl, ho5, hb5⟩; have hw5 := own_wb ho5; clear ho5; unfold sl)
    | (go_at_call 12; refine (same_any _ _ _ _ _ _ _ _ _ _ ((hw4.on hb5).whole (wd_len _ _ _)) (hw5.whole (wd_len _ _ _)) (by unfold cnt; omega) (by unfold cnt; omega)).mono ?_; rintro e w6 ⟨rfl, hb6⟩; rw [eqB_self])
    | (go_at_call 15; refine (countI_any _ _ (by omega)).mono ?_; rintro e w' ⟨rfl, rfl⟩; rw [HC.out])
    | (go_at_call 16; refine (intact_any A n c w.heap.size xs 7 _ (hx.on (after (after (after (after (after hb1 hb2) hb3) hb4) hb5) hb6)) (Blk.lt (hw1.on (after (after (after (after hb2 hb3) hb4) hb5) hb6))) (hw1.on (after (after (after (after hb2 hb3) hb4) hb5) hb6)) (by omega)).mono ?_; rintro e w7 ⟨rfl, hb7⟩)
    | (go_at_call 17; refine (runs _).mono ?_; rintro e w8 ⟨rfl, hb8⟩)
    | fail)
  go_ret
  exact ⟨rfl, after (after (after (after (after (after (after hb1 hb2) hb3) hb4) hb5) hb6) hb7) hb8⟩
set_option maxHeartbeats 3200000 in
theorem tells_big00 (s0 s : ByteArray) (A : Option Addr) (n0 n c : Nat) (m : Int) (xs : List Int) (runs : ∀ w, Calls Try.prog 17 #[] w fun e w' => e = .returned (.bool true) ∧ Below w.heap.size w w') (w : World)
    (HX : True) (hs0 : True) (hs : s.size ≤ 300) (hn0 : True) (hx : Reads w w.heap.size 1 A n (u64s xs)) (hn : n ≤ 60) (h64 : W64 xs) (hbad : m < 0 ∨ 8 * (n : Int) < m) (h0 : 0 < m) (hm : m ≤ 9223372036854775807) (hr : ¬ 0 < m % 8) :
    Calls Try.prog 3 #[.string s, .slice A n c, .int .i64 m] w fun e w' => e = .returned (.bool true) ∧ Below w.heap.size w w' := by
  have LX : Hid (xs.length = n) := hx.u64
  have hs' : ¬ (300 : Int) < s.size := by omega
  have hn' : ¬ (60 : Int) < n := by omega
  have HC : Hid (cntI m = m / 8) := by show cntI m = _; unfold cntI; rw [if_neg (by omega)]; omega
  go_enter Try.func3, Try.ntmps3
  go_wp2_with (first
    | (go_at_call 9; refine (roomy_any A n c xs 7 _ hx (by omega)).mono ?_; rintro e w1 ⟨rfl, hw1, hb1⟩; unfold sl; rw [LX.out])
    | (go_at_call 10; refine (pbytes_bad _ n _ m _ (by omega) hbad).mono ?_; rintro e w2 ⟨rfl, hq2⟩; have hb2 : Below w1.heap.size w1 w2 := (by rw [hq2]; exact Below.refl _ _); clear hq2; unfold badV)
    | (go_at_call 11; refine (rbytes_bad A n c m _ (by omega) hbad).mono ?_; rintro e w3 ⟨rfl, hq3⟩; have hb3 : Below w2.heap.size w2 w3 := (by rw [hq3]; exact Below.refl _ _); clear hq3; unfold badV)
    | (go_at_call 13; refine (pwords_any s _ (by omega)).mono ?_; rintro e w4 ⟨rfl, ho4, hb4⟩; have hw4 := own_wb ho4; clear ho4; unfold sl)
    | (go_at_call 14; refine (rwords_any s _ (by omega)).mono ?_; rintro e w5 ⟨rfl, ho5, hb5⟩; have hw5 := own_wb ho5; clear ho5; unfold sl)
    | (go_at_call 12; refine (same_any _ _ _ _ _ _ _ _ _ _ ((hw4.on hb5).whole (wd_len _ _ _)) (hw5.whole (wd_len _ _ _)) (by unfold cnt; omega) (by unfold cnt; omega)).mono ?_; rintro e w6 ⟨rfl, hb6⟩; rw [eqB_self])
    | (go_at_call 15; refine (countI_any _ _ (by omega)).mono ?_; rintro e w' ⟨rfl, rfl⟩; rw [HC.out])
    | (go_at_call 16; refine (intact_any A n c w.heap.size xs 7 _ (hx.on (after (after (after (after (after hb1 hb2) hb3) hb4) hb5) hb6)) (Blk.lt (hw1.on (after (after (after (after hb2 hb3) hb4) hb5) hb6))) (hw1.on (after (after (after (after hb2 hb3) hb4) hb5) hb6)) (by omega)).mono ?_; rintro e w7 ⟨rfl, hb7⟩)
    | (go_at_call 17; refine (runs _).mono ?_; rintro e w8 ⟨rfl, hb8⟩)
    | fail)
  go_ret
  exact ⟨rfl, after (after (after (after (after (after (after hb1 hb2) hb3) hb4) hb5) hb6) hb7) hb8⟩
set_option maxHeartbeats 3200000 in
theorem tells_bigr00 (s0 s : ByteArray) (A : Option Addr) (n0 n c : Nat) (m : Int) (xs : List Int) (runs : ∀ w, Calls Try.prog 17 #[] w fun e w' => e = .returned (.bool true) ∧ Below w.heap.size w w') (w : World)
    (HX : True) (hs0 : True) (hs : s.size ≤ 300) (hn0 : True) (hx : Reads w w.heap.size 1 A n (u64s xs)) (hn : n ≤ 60) (h64 : W64 xs) (hbad : m < 0 ∨ 8 * (n : Int) < m) (h0 : 0 < m) (hm : m ≤ 9223372036854775807) (hr : 0 < m % 8) :
    Calls Try.prog 3 #[.string s, .slice A n c, .int .i64 m] w fun e w' => e = .returned (.bool true) ∧ Below w.heap.size w w' := by
  have LX : Hid (xs.length = n) := hx.u64
  have hs' : ¬ (300 : Int) < s.size := by omega
  have hn' : ¬ (60 : Int) < n := by omega
  have HC : Hid (cntI m = m / 8 + 1) := by show cntI m = _; unfold cntI; rw [if_neg (by omega)]; omega
  go_enter Try.func3, Try.ntmps3
  go_wp2_with (first
    | (go_at_call 9; refine (roomy_any A n c xs 7 _ hx (by omega)).mono ?_; rintro e w1 ⟨rfl, hw1, hb1⟩; unfold sl; rw [LX.out])
    | (go_at_call 10; refine (pbytes_bad _ n _ m _ (by omega) hbad).mono ?_; rintro e w2 ⟨rfl, hq2⟩; have hb2 : Below w1.heap.size w1 w2 := (by rw [hq2]; exact Below.refl _ _); clear hq2; unfold badV)
    | (go_at_call 11; refine (rbytes_bad A n c m _ (by omega) hbad).mono ?_; rintro e w3 ⟨rfl, hq3⟩; have hb3 : Below w2.heap.size w2 w3 := (by rw [hq3]; exact Below.refl _ _); clear hq3; unfold badV)
    | (go_at_call 13; refine (pwords_any s _ (by omega)).mono ?_; rintro e w4 ⟨rfl, ho4, hb4⟩; have hw4 := own_wb ho4; clear ho4; unfold sl)
    | (go_at_call 14; refine (rwords_any s _ (by omega)).mono ?_; rintro e w5 ⟨rfl, ho5, hb5⟩; have hw5 := own_wb ho5; clear ho5; unfold sl)
    | (go_at_call 12; refine (same_any _ _ _ _ _ _ _ _ _ _ ((hw4.on hb5).whole (wd_len _ _ _)) (hw5.whole (wd_len _ _ _)) (by unfold cnt; omega) (by unfold cnt; omega)).mono ?_; rintro e w6 ⟨rfl, hb6⟩; rw [eqB_self])
    | (go_at_call 15; refine (countI_any _ _ (by omega)).mono ?_; rintro e w' ⟨rfl, rfl⟩; rw [HC.out])
    | (go_at_call 16; refine (intact_any A n c w.heap.size xs 7 _ (hx.on (after (after (after (after (after hb1 hb2) hb3) hb4) hb5) hb6)) (Blk.lt (hw1.on (after (after (after (after hb2 hb3) hb4) hb5) hb6))) (hw1.on (after (after (after (after hb2 hb3) hb4) hb5) hb6)) (by omega)).mono ?_; rintro e w7 ⟨rfl, hb7⟩)
    | (go_at_call 17; refine (runs _).mono ?_; rintro e w8 ⟨rfl, hb8⟩)
    | fail)
  go_ret
  exact ⟨rfl, after (after (after (after (after (after (after hb1 hb2) hb3) hb4) hb5) hb6) hb7) hb8⟩
set_option maxHeartbeats 3200000 in
theorem tells_ot00 (s0 s : ByteArray) (A : Option Addr) (n0 n c : Nat) (m : Nat) (xs : List Int) (runs : ∀ w, Calls Try.prog 17 #[] w fun e w' => e = .returned (.bool true) ∧ Below w.heap.size w w') (w : World)
    (HX : True) (hs0 : True) (hs : s.size ≤ 300) (hn0 : True) (hx : Reads w w.heap.size 1 A n (u64s xs)) (hn : n ≤ 60) (h64 : W64 xs) (hm : m ≤ 8 * n) (hz : zfB xs m = true) (h0 : (m : Int) ≤ 0) :
    Calls Try.prog 3 #[.string s, .slice A n c, .int .i64 m] w fun e w' => e = .returned (.bool true) ∧ Below w.heap.size w w' := by
  have LX : Hid (xs.length = n) := hx.u64
  have hs' : ¬ (300 : Int) < s.size := by omega
  have hn' : ¬ (60 : Int) < n := by omega
  have HZ : Hid (zfB xs m = restB xs m) := zf_rest xs m h64 (by rw [LX.out]; exact hm)
  have HC : Hid (cntI (m : Int) = 0) := if_pos h0
  go_enter Try.func3, Try.ntmps3
  go_wp2_with (first
    | (go_at_call 9; refine (roomy_any A n c xs 7 _ hx (by omega)).mono ?_; rintro e w1 ⟨rfl, hw1, hb1⟩; unfold sl; rw [LX.out])
    | (go_at_call 10; refine (pbytes_any _ n _ m xs _ (room_reads hw1 (Blk.lt hw1) LX.out) (by omega) hm).mono ?_; rintro e w2 ⟨rfl, hb2⟩; rw [hz, bytesV_t])
    | (go_at_call 11; refine (rbytes_any A n c m xs _ (hx.on (after hb1 hb2)) (by omega) hm).mono ?_; rintro e w3 ⟨rfl, hb3⟩; rw [← HZ.out, hz, bytesV_t])
    | (go_at_call 13; refine (pwords_any s _ (by omega)).mono ?_; rintro e w4 ⟨rfl, ho4, hb4⟩; have hw4 := own_wb ho4; clear ho4; unfold sl)
    | (go_at_call 14; refine (rwords_any s _ (by omega)).mono ?_; rintro e w5 ⟨rfl, ho5, hb5⟩; have hw5 := own_wb ho5; clear ho5; unfold sl)
    | (go_at_call 12; refine (same_any _ _ _ _ _ _ _ _ _ _ ((hw4.on hb5).whole (wd_len _ _ _)) (hw5.whole (wd_len _ _ _)) (by unfold cnt; omega) (by unfold cnt; omega)).mono ?_; rintro e w6 ⟨rfl, hb6⟩; rw [eqB_self])
    | (go_at_call 15; refine (countI_any _ _ (by omega)).mono ?_; rintro e w' ⟨rfl, rfl⟩; rw [HC.out])
    | (go_at_call 16; refine (intact_any A n c w.heap.size xs 7 _ (hx.on (after (after (after (after (after hb1 hb2) hb3) hb4) hb5) hb6)) (Blk.lt (hw1.on (after (after (after (after hb2 hb3) hb4) hb5) hb6))) (hw1.on (after (after (after (after hb2 hb3) hb4) hb5) hb6)) (by omega)).mono ?_; rintro e w7 ⟨rfl, hb7⟩)
    | (go_at_call 17; refine (runs _).mono ?_; rintro e w8 ⟨rfl, hb8⟩)
    | fail)
  go_ret
  exact ⟨rfl, after (after (after (after (after (after (after hb1 hb2) hb3) hb4) hb5) hb6) hb7) hb8⟩
set_option maxHeartbeats 3200000 in
theorem tells_et00 (s0 s : ByteArray) (A : Option Addr) (n0 n c : Nat) (m : Nat) (xs : List Int) (runs : ∀ w, Calls Try.prog 17 #[] w fun e w' => e = .returned (.bool true) ∧ Below w.heap.size w w') (w : World)
    (HX : True) (hs0 : True) (hs : s.size ≤ 300) (hn0 : True) (hx : Reads w w.heap.size 1 A n (u64s xs)) (hn : n ≤ 60) (h64 : W64 xs) (hm : m ≤ 8 * n) (hz : zfB xs m = true) (h0 : (0 : Int) < m) (hr : ¬ (0 : Int) < (m : Int) % 8) :
    Calls Try.prog 3 #[.string s, .slice A n c, .int .i64 m] w fun e w' => e = .returned (.bool true) ∧ Below w.heap.size w w' := by
  have LX : Hid (xs.length = n) := hx.u64
  have hs' : ¬ (300 : Int) < s.size := by omega
  have hn' : ¬ (60 : Int) < n := by omega
  have HZ : Hid (zfB xs m = restB xs m) := zf_rest xs m h64 (by rw [LX.out]; exact hm)
  have HC : Hid (cntI (m : Int) = (m : Int) / 8) := by show cntI (m : Int) = _; unfold cntI; rw [if_neg (by omega)]; omega
  go_enter Try.func3, Try.ntmps3
  go_wp2_with (first
    | (go_at_call 9; refine (roomy_any A n c xs 7 _ hx (by omega)).mono ?_; rintro e w1 ⟨rfl, hw1, hb1⟩; unfold sl; rw [LX.out])
    | (go_at_call 10; refine (pbytes_any _ n _ m xs _ (room_reads hw1 (Blk.lt hw1) LX.out) (by omega) hm).mono ?_; rintro e w2 ⟨rfl, hb2⟩; rw [hz, bytesV_t])
    | (go_at_call 11; refine (rbytes_any A n c m xs _ (hx.on (after hb1 hb2)) (by omega) hm).mono ?_; rintro e w3 ⟨rfl, hb3⟩; rw [← HZ.out, hz, bytesV_t])
    | (go_at_call 13; refine (pwords_any s _ (by omega)).mono ?_; rintro e w4 ⟨rfl, ho4, hb4⟩; have hw4 := own_wb ho4; clear ho4; unfold sl)
    | (go_at_call 14; refine (rwords_any s _ (by omega)).mono ?_; rintro e w5 ⟨rfl, ho5, hb5⟩; have hw5 := own_wb ho5; clear ho5; unfold sl)
    | (go_at_call 12; refine (same_any _ _ _ _ _ _ _ _ _ _ ((hw4.on hb5).whole (wd_len _ _ _)) (hw5.whole (wd_len _ _ _)) (by unfold cnt; omega) (by unfold cnt; omega)).mono ?_; rintro e w6 ⟨rfl, hb6⟩; rw [eqB_self])
    | (go_at_call 15; refine (countI_any _ _ (by omega)).mono ?_; rintro e w' ⟨rfl, rfl⟩; rw [HC.out])
    | (go_at_call 16; refine (intact_any A n c w.heap.size xs 7 _ (hx.on (after (after (after (after (after hb1 hb2) hb3) hb4) hb5) hb6)) (Blk.lt (hw1.on (after (after (after (after hb2 hb3) hb4) hb5) hb6))) (hw1.on (after (after (after (after hb2 hb3) hb4) hb5) hb6)) (by omega)).mono ?_; rintro e w7 ⟨rfl, hb7⟩)
    | (go_at_call 17; refine (runs _).mono ?_; rintro e w8 ⟨rfl, hb8⟩)
    | fail)
  go_ret
  exact ⟨rfl, after (after (after (after (after (after (after hb1 hb2) hb3) hb4) hb5) hb6) hb7) hb8⟩
set_option maxHeartbeats 3200000 in
theorem tells_rt00 (s0 s : ByteArray) (A : Option Addr) (n0 n c : Nat) (m : Nat) (xs : List Int) (runs : ∀ w, Calls Try.prog 17 #[] w fun e w' => e = .returned (.bool true) ∧ Below w.heap.size w w') (w : World)
    (HX : True) (hs0 : True) (hs : s.size ≤ 300) (hn0 : True) (hx : Reads w w.heap.size 1 A n (u64s xs)) (hn : n ≤ 60) (h64 : W64 xs) (hm : m ≤ 8 * n) (hz : zfB xs m = true) (h0 : (0 : Int) < m) (hr : (0 : Int) < (m : Int) % 8) :
    Calls Try.prog 3 #[.string s, .slice A n c, .int .i64 m] w fun e w' => e = .returned (.bool true) ∧ Below w.heap.size w w' := by
  have LX : Hid (xs.length = n) := hx.u64
  have hs' : ¬ (300 : Int) < s.size := by omega
  have hn' : ¬ (60 : Int) < n := by omega
  have HZ : Hid (zfB xs m = restB xs m) := zf_rest xs m h64 (by rw [LX.out]; exact hm)
  have HC : Hid (cntI (m : Int) = (m : Int) / 8 + 1) := by show cntI (m : Int) = _; unfold cntI; rw [if_neg (by omega)]; omega
  go_enter Try.func3, Try.ntmps3
  go_wp2_with (first
    | (go_at_call 9; refine (roomy_any A n c xs 7 _ hx (by omega)).mono ?_; rintro e w1 ⟨rfl, hw1, hb1⟩; unfold sl; rw [LX.out])
    | (go_at_call 10; refine (pbytes_any _ n _ m xs _ (room_reads hw1 (Blk.lt hw1) LX.out) (by omega) hm).mono ?_; rintro e w2 ⟨rfl, hb2⟩; rw [hz, bytesV_t])
    | (go_at_call 11; refine (rbytes_any A n c m xs _ (hx.on (after hb1 hb2)) (by omega) hm).mono ?_; rintro e w3 ⟨rfl, hb3⟩; rw [← HZ.out, hz, bytesV_t])
    | (go_at_call 13; refine (pwords_any s _ (by omega)).mono ?_; rintro e w4 ⟨rfl, ho4, hb4⟩; have hw4 := own_wb ho4; clear ho4; unfold sl)
    | (go_at_call 14; refine (rwords_any s _ (by omega)).mono ?_; rintro e w5 ⟨rfl, ho5, hb5⟩; have hw5 := own_wb ho5; clear ho5; unfold sl)
    | (go_at_call 12; refine (same_any _ _ _ _ _ _ _ _ _ _ ((hw4.on hb5).whole (wd_len _ _ _)) (hw5.whole (wd_len _ _ _)) (by unfold cnt; omega) (by unfold cnt; omega)).mono ?_; rintro e w6 ⟨rfl, hb6⟩; rw [eqB_self])
    | (go_at_call 15; refine (countI_any _ _ (by omega)).mono ?_; rintro e w' ⟨rfl, rfl⟩; rw [HC.out])
    | (go_at_call 16; refine (intact_any A n c w.heap.size xs 7 _ (hx.on (after (after (after (after (after hb1 hb2) hb3) hb4) hb5) hb6)) (Blk.lt (hw1.on (after (after (after (after hb2 hb3) hb4) hb5) hb6))) (hw1.on (after (after (after (after hb2 hb3) hb4) hb5) hb6)) (by omega)).mono ?_; rintro e w7 ⟨rfl, hb7⟩)
    | (go_at_call 17; refine (runs _).mono ?_; rintro e w8 ⟨rfl, hb8⟩)
    | fail)
  go_ret
  exact ⟨rfl, after (after (after (after (after (after (after hb1 hb2) hb3) hb4) hb5) hb6) hb7) hb8⟩
set_option maxHeartbeats 3200000 in
theorem tells_of00 (s0 s : ByteArray) (A : Option Addr) (n0 n c : Nat) (m : Nat) (xs : List Int) (runs : ∀ w, Calls Try.prog 17 #[] w fun e w' => e = .returned (.bool true) ∧ Below w.heap.size w w') (w : World)
    (HX : True) (hs0 : True) (hs : s.size ≤ 300) (hn0 : True) (hx : Reads w w.heap.size 1 A n (u64s xs)) (hn : n ≤ 60) (h64 : W64 xs) (hm : m ≤ 8 * n) (hz : zfB xs m = false) (h0 : (m : Int) ≤ 0) :
    Calls Try.prog 3 #[.string s, .slice A n c, .int .i64 m] w fun e w' => e = .returned (.bool true) ∧ Below w.heap.size w w' := by
  have LX : Hid (xs.length = n) := hx.u64
  have hs' : ¬ (300 : Int) < s.size := by omega
  have hn' : ¬ (60 : Int) < n := by omega
  have HZ : Hid (zfB xs m = restB xs m) := zf_rest xs m h64 (by rw [LX.out]; exact hm)
  have HC : Hid (cntI (m : Int) = 0) := if_pos h0
  go_enter Try.func3, Try.ntmps3
  go_wp2_with (first
    | (go_at_call 9; refine (roomy_any A n c xs 7 _ hx (by omega)).mono ?_; rintro e w1 ⟨rfl, hw1, hb1⟩; unfold sl; rw [LX.out])
    | (go_at_call 10; refine (pbytes_any _ n _ m xs _ (room_reads hw1 (Blk.lt hw1) LX.out) (by omega) hm).mono ?_; rintro e w2 ⟨rfl, hb2⟩; rw [hz, bytesV_f])
    | (go_at_call 11; refine (rbytes_any A n c m xs _ (hx.on (after hb1 hb2)) (by omega) hm).mono ?_; rintro e w3 ⟨rfl, hb3⟩; rw [← HZ.out, hz, bytesV_f])
    | (go_at_call 13; refine (pwords_any s _ (by omega)).mono ?_; rintro e w4 ⟨rfl, ho4, hb4⟩; have hw4 := own_wb ho4; clear ho4; unfold sl)
    | (go_at_call 14; refine (rwords_any s _ (by omega)).mono ?_; rintro e w5 ⟨rfl, ho5, hb5⟩; have hw5 := own_wb ho5; clear ho5; unfold sl)
    | (go_at_call 12; refine (same_any _ _ _ _ _ _ _ _ _ _ ((hw4.on hb5).whole (wd_len _ _ _)) (hw5.whole (wd_len _ _ _)) (by unfold cnt; omega) (by unfold cnt; omega)).mono ?_; rintro e w6 ⟨rfl, hb6⟩; rw [eqB_self])
    | (go_at_call 15; refine (countI_any _ _ (by omega)).mono ?_; rintro e w' ⟨rfl, rfl⟩; rw [HC.out])
    | (go_at_call 16; refine (intact_any A n c w.heap.size xs 7 _ (hx.on (after (after (after (after (after hb1 hb2) hb3) hb4) hb5) hb6)) (Blk.lt (hw1.on (after (after (after (after hb2 hb3) hb4) hb5) hb6))) (hw1.on (after (after (after (after hb2 hb3) hb4) hb5) hb6)) (by omega)).mono ?_; rintro e w7 ⟨rfl, hb7⟩)
    | (go_at_call 17; refine (runs _).mono ?_; rintro e w8 ⟨rfl, hb8⟩)
    | fail)
  go_ret
  exact ⟨rfl, after (after (after (after (after (after (after hb1 hb2) hb3) hb4) hb5) hb6) hb7) hb8⟩
set_option maxHeartbeats 3200000 in
theorem tells_ef00 (s0 s : ByteArray) (A : Option Addr) (n0 n c : Nat) (m : Nat) (xs : List Int) (runs : ∀ w, Calls Try.prog 17 #[] w fun e w' => e = .returned (.bool true) ∧ Below w.heap.size w w') (w : World)
    (HX : True) (hs0 : True) (hs : s.size ≤ 300) (hn0 : True) (hx : Reads w w.heap.size 1 A n (u64s xs)) (hn : n ≤ 60) (h64 : W64 xs) (hm : m ≤ 8 * n) (hz : zfB xs m = false) (h0 : (0 : Int) < m) (hr : ¬ (0 : Int) < (m : Int) % 8) :
    Calls Try.prog 3 #[.string s, .slice A n c, .int .i64 m] w fun e w' => e = .returned (.bool true) ∧ Below w.heap.size w w' := by
  have LX : Hid (xs.length = n) := hx.u64
  have hs' : ¬ (300 : Int) < s.size := by omega
  have hn' : ¬ (60 : Int) < n := by omega
  have HZ : Hid (zfB xs m = restB xs m) := zf_rest xs m h64 (by rw [LX.out]; exact hm)
  have HC : Hid (cntI (m : Int) = (m : Int) / 8) := by show cntI (m : Int) = _; unfold cntI; rw [if_neg (by omega)]; omega
  go_enter Try.func3, Try.ntmps3
  go_wp2_with (first
    | (go_at_call 9; refine (roomy_any A n c xs 7 _ hx (by omega)).mono ?_; rintro e w1 ⟨rfl, hw1, hb1⟩; unfold sl; rw [LX.out])
    | (go_at_call 10; refine (pbytes_any _ n _ m xs _ (room_reads hw1 (Blk.lt hw1) LX.out) (by omega) hm).mono ?_; rintro e w2 ⟨rfl, hb2⟩; rw [hz, bytesV_f])
    | (go_at_call 11; refine (rbytes_any A n c m xs _ (hx.on (after hb1 hb2)) (by omega) hm).mono ?_; rintro e w3 ⟨rfl, hb3⟩; rw [← HZ.out, hz, bytesV_f])
    | (go_at_call 13; refine (pwords_any s _ (by omega)).mono ?_; rintro e w4 ⟨rfl, ho4, hb4⟩; have hw4 := own_wb ho4; clear ho4; unfold sl)
    | (go_at_call 14; refine (rwords_any s _ (by omega)).mono ?_; rintro e w5 ⟨rfl, ho5, hb5⟩; have hw5 := own_wb ho5; clear ho5; unfold sl)
    | (go_at_call 12; refine (same_any _ _ _ _ _ _ _ _ _ _ ((hw4.on hb5).whole (wd_len _ _ _)) (hw5.whole (wd_len _ _ _)) (by unfold cnt; omega) (by unfold cnt; omega)).mono ?_; rintro e w6 ⟨rfl, hb6⟩; rw [eqB_self])
    | (go_at_call 15; refine (countI_any _ _ (by omega)).mono ?_; rintro e w' ⟨rfl, rfl⟩; rw [HC.out])
    | (go_at_call 16; refine (intact_any A n c w.heap.size xs 7 _ (hx.on (after (after (after (after (after hb1 hb2) hb3) hb4) hb5) hb6)) (Blk.lt (hw1.on (after (after (after (after hb2 hb3) hb4) hb5) hb6))) (hw1.on (after (after (after (after hb2 hb3) hb4) hb5) hb6)) (by omega)).mono ?_; rintro e w7 ⟨rfl, hb7⟩)
    | (go_at_call 17; refine (runs _).mono ?_; rintro e w8 ⟨rfl, hb8⟩)
    | fail)
  go_ret
  exact ⟨rfl, after (after (after (after (after (after (after hb1 hb2) hb3) hb4) hb5) hb6) hb7) hb8⟩
set_option maxHeartbeats 3200000 in
theorem tells_rf00 (s0 s : ByteArray) (A : Option Addr) (n0 n c : Nat) (m : Nat) (xs : List Int) (runs : ∀ w, Calls Try.prog 17 #[] w fun e w' => e = .returned (.bool true) ∧ Below w.heap.size w w') (w : World)
    (HX : True) (hs0 : True) (hs : s.size ≤ 300) (hn0 : True) (hx : Reads w w.heap.size 1 A n (u64s xs)) (hn : n ≤ 60) (h64 : W64 xs) (hm : m ≤ 8 * n) (hz : zfB xs m = false) (h0 : (0 : Int) < m) (hr : (0 : Int) < (m : Int) % 8) :
    Calls Try.prog 3 #[.string s, .slice A n c, .int .i64 m] w fun e w' => e = .returned (.bool true) ∧ Below w.heap.size w w' := by
  have LX : Hid (xs.length = n) := hx.u64
  have hs' : ¬ (300 : Int) < s.size := by omega
  have hn' : ¬ (60 : Int) < n := by omega
  have HZ : Hid (zfB xs m = restB xs m) := zf_rest xs m h64 (by rw [LX.out]; exact hm)
  have HC : Hid (cntI (m : Int) = (m : Int) / 8 + 1) := by show cntI (m : Int) = _; unfold cntI; rw [if_neg (by omega)]; omega
  go_enter Try.func3, Try.ntmps3
  go_wp2_with (first
    | (go_at_call 9; refine (roomy_any A n c xs 7 _ hx (by omega)).mono ?_; rintro e w1 ⟨rfl, hw1, hb1⟩; unfold sl; rw [LX.out])
    | (go_at_call 10; refine (pbytes_any _ n _ m xs _ (room_reads hw1 (Blk.lt hw1) LX.out) (by omega) hm).mono ?_; rintro e w2 ⟨rfl, hb2⟩; rw [hz, bytesV_f])
    | (go_at_call 11; refine (rbytes_any A n c m xs _ (hx.on (after hb1 hb2)) (by omega) hm).mono ?_; rintro e w3 ⟨rfl, hb3⟩; rw [← HZ.out, hz, bytesV_f])
    | (go_at_call 13; refine (pwords_any s _ (by omega)).mono ?_; rintro e w4 ⟨rfl, ho4, hb4⟩; have hw4 := own_wb ho4; clear ho4; unfold sl)
    | (go_at_call 14; refine (rwords_any s _ (by omega)).mono ?_; rintro e w5 ⟨rfl, ho5, hb5⟩; have hw5 := own_wb ho5; clear ho5; unfold sl)
    | (go_at_call 12; refine (same_any _ _ _ _ _ _ _ _ _ _ ((hw4.on hb5).whole (wd_len _ _ _)) (hw5.whole (wd_len _ _ _)) (by unfold cnt; omega) (by unfold cnt; omega)).mono ?_; rintro e w6 ⟨rfl, hb6⟩; rw [eqB_self])
    | (go_at_call 15; refine (countI_any _ _ (by omega)).mono ?_; rintro e w' ⟨rfl, rfl⟩; rw [HC.out])
    | (go_at_call 16; refine (intact_any A n c w.heap.size xs 7 _ (hx.on (after (after (after (after (after hb1 hb2) hb3) hb4) hb5) hb6)) (Blk.lt (hw1.on (after (after (after (after hb2 hb3) hb4) hb5) hb6))) (hw1.on (after (after (after (after hb2 hb3) hb4) hb5) hb6)) (by omega)).mono ?_; rintro e w7 ⟨rfl, hb7⟩)
    | (go_at_call 17; refine (runs _).mono ?_; rintro e w8 ⟨rfl, hb8⟩)
    | fail)
  go_ret
  exact ⟨rfl, after (after (after (after (after (after (after hb1 hb2) hb3) hb4) hb5) hb6) hb7) hb8⟩
theorem tells00 (s0 s : ByteArray) (A : Option Addr) (n0 n c : Nat) (m : Int) (xs : List Int) (runs : ∀ w, Calls Try.prog 17 #[] w fun e w' => e = .returned (.bool true) ∧ Below w.heap.size w w') (w : World)
    (HX : True) (hs0 : True) (hs : s.size ≤ 300) (hn0 : True) (hx : Reads w w.heap.size 1 A n (u64s xs)) (hn : n ≤ 60) (h64 : W64 xs) (hm : m ≤ 9223372036854775807) :
    Calls Try.prog 3 #[.string s, .slice A n c, .int .i64 m] w fun e w' => e = .returned (.bool true) ∧ Below w.heap.size w w' := by
  by_cases hb : m < 0 ∨ 8 * (n : Int) < m
  · by_cases h0 : m ≤ 0
    · exact tells_neg00 s0 s A n0 n c m xs runs w HX hs0 hs hn0 hx hn h64 hb h0
    · by_cases hr : 0 < m % 8
      · exact tells_bigr00 s0 s A n0 n c m xs runs w HX hs0 hs hn0 hx hn h64 hb (by omega) hm hr
      · exact tells_big00 s0 s A n0 n c m xs runs w HX hs0 hs hn0 hx hn h64 hb (by omega) hm hr
  · obtain ⟨k, rfl⟩ : ∃ k : Nat, m = k := ⟨m.toNat, by omega⟩
    have hk : k ≤ 8 * n := by omega
    cases hz : zfB xs k
    · by_cases h0 : (k : Int) ≤ 0
      · exact tells_of00 s0 s A n0 n c k xs runs w HX hs0 hs hn0 hx hn h64 hk hz h0
      · by_cases hr : (0 : Int) < (k : Int) % 8
        · exact tells_rf00 s0 s A n0 n c k xs runs w HX hs0 hs hn0 hx hn h64 hk hz (by omega) hr
        · exact tells_ef00 s0 s A n0 n c k xs runs w HX hs0 hs hn0 hx hn h64 hk hz (by omega) hr
    · by_cases h0 : (k : Int) ≤ 0
      · exact tells_ot00 s0 s A n0 n c k xs runs w HX hs0 hs hn0 hx hn h64 hk hz h0
      · by_cases hr : (0 : Int) < (k : Int) % 8
        · exact tells_rt00 s0 s A n0 n c k xs runs w HX hs0 hs hn0 hx hn h64 hk hz (by omega) hr
        · exact tells_et00 s0 s A n0 n c k xs runs w HX hs0 hs hn0 hx hn h64 hk hz (by omega) hr
set_option maxHeartbeats 3200000 in
theorem tells_neg10 (s0 s : ByteArray) (A : Option Addr) (n0 n c : Nat) (m : Int) (xs : List Int) (runs : ∀ w, Calls Try.prog 17 #[] w fun e w' => e = .returned (.bool true) ∧ Below w.heap.size w w') (w : World)
    (HX : Hid (s = s0.extract 0 300)) (hs0 : (300 : Int) < s0.size) (hs : s.size ≤ 300) (hn0 : True) (hx : Reads w w.heap.size 1 A n (u64s xs)) (hn : n ≤ 60) (h64 : W64 xs) (hbad : m < 0 ∨ 8 * (n : Int) < m) (h0 : m ≤ 0) :
    Calls Try.prog 3 #[.string s0, .slice A n c, .int .i64 m] w fun e w' => e = .returned (.bool true) ∧ Below w.heap.size w w' := by
  have LX : Hid (xs.length = n) := hx.u64
  have hs2 : (300 : Int) ≤ s0.size := by omega
  have hn' : ¬ (60 : Int) < n := by omega
  have HC : Hid (cntI m = 0) := if_pos h0
  go_enter Try.func3, Try.ntmps3
  go_wp2_with (first
    | (go_at_call 9; refine (roomy_any A n c xs 7 _ hx (by omega)).mono ?_; rintro e w1 ⟨rfl, hw1, hb1⟩; unfold sl; rw [LX.out])
    | (go_at_call 10; refine (pbytes_bad _ n _ m _ (by omega) hbad).mono ?_; rintro e w2 ⟨rfl, hq2⟩; have hb2 : Below w1.heap.size w1 w2 := (by rw [hq2]; exact Below.refl _ _); clear hq2; unfold badV)
    | (go_at_call 11; refine (rbytes_bad A n c m _ (by omega) hbad).mono ?_; rintro e w3 ⟨rfl, hq3⟩; have hb3 : Below w2.heap.size w2 w3 := (by rw [hq3]; exact Below.refl _ _); clear hq3; unfold badV)
    | (go_at_call 13; rw [← HX.out]; refine (pwords_any s _ (by omega)).mono ?_; rintro e w4 ⟨rfl, ho4, hb4⟩; have hw4 := own_wb ho4; clear ho4; unfold sl)
    | (go_at_call 14; refine (rwords_any s _ (by omega)).mono ?_; rintro e w5 ⟨rfl, ho5, hb5⟩; have hw5 := own_wb ho5; clear ho5; unfold sl)
    | (go_at_call 12; refine (same_any _ _ _ _ _ _ _ _ _ _ ((hw4.on hb5).whole (wd_len _ _ _)) (hw5.whole (wd_len _ _ _)) (by unfold cnt; omega) (by unfold cnt; omega)).mono ?_; rintro e w6 ⟨rfl, hb6⟩; rw [eqB_self])
    | (go_at_call 15; refine (countI_any _ _ (by omega)).mono ?_; rintro e w' ⟨rfl, rfl⟩; rw [HC.out])
    | (go_at_call 16; refine (intact_any A n c w.heap.size xs 7 _ (hx.on (after (after (after (after (after hb1 hb2) hb3) hb4) hb5) hb6)) (Blk.lt (hw1.on (after (after (after (after hb2 hb3) hb4) hb5) hb6))) (hw1.on (after (after (after (after hb2 hb3) hb4) hb5) hb6)) (by omega)).mono ?_; rintro e w7 ⟨rfl, hb7⟩)
    | (go_at_call 17; refine (runs _).mono ?_; rintro e w8 ⟨rfl, hb8⟩)
    | fail)
  go_ret
  exact ⟨rfl, after (after (after (after (after (after (after hb1 hb2) hb3) hb4) hb5) hb6) hb7) hb8⟩
set_option maxHeartbeats 3200000 in
theorem tells_big10 (s0 s : ByteArray) (A : Option Addr) (n0 n c : Nat) (m : Int) (xs : List Int) (runs : ∀ w, Calls Try.prog 17 #[] w fun e w' => e = .returned (.bool true) ∧ Below w.heap.size w w') (w : World)
    (HX : Hid (s = s0.extract 0 300)) (hs0 : (300 : Int) < s0.size) (hs : s.size ≤ 300) (hn0 : True) (hx : Reads w w.heap.size 1 A n (u64s xs)) (hn : n ≤ 60) (h64 : W64 xs) (hbad : m < 0 ∨ 8 * (n : Int) < m) (h0 : 0 < m) (hm : m ≤ 9223372036854775807) (hr : ¬ 0 < m % 8) :
    Calls Try.prog 3 #[.string s0, .slice A n c, .int .i64 m] w fun e w' => e = .returned (.bool true) ∧ Below w.heap.size w w' := by
  have LX : Hid (xs.length = n) := hx.u64
  have hs2 : (300 : Int) ≤ s0.size := by omega
  have hn' : ¬ (60 : Int) < n := by omega
  have HC : Hid (cntI m = m / 8) := by show cntI m = _; unfold cntI; rw [if_neg (by omega)]; omega
  go_enter Try.func3, Try.ntmps3
  go_wp2_with (first
    | (go_at_call 9; refine (roomy_any A n c xs 7 _ hx (by omega)).mono ?_; rintro e w1 ⟨rfl, hw1, hb1⟩; unfold sl; rw [LX.out])
    | (go_at_call 10; refine (pbytes_bad _ n _ m _ (by omega) hbad).mono ?_; rintro e w2 ⟨rfl, hq2⟩; have hb2 : Below w1.heap.size w1 w2 := (by rw [hq2]; exact Below.refl _ _); clear hq2; unfold badV)
    | (go_at_call 11; refine (rbytes_bad A n c m _ (by omega) hbad).mono ?_; rintro e w3 ⟨rfl, hq3⟩; have hb3 : Below w2.heap.size w2 w3 := (by rw [hq3]; exact Below.refl _ _); clear hq3; unfold badV)
    | (go_at_call 13; rw [← HX.out]; refine (pwords_any s _ (by omega)).mono ?_; rintro e w4 ⟨rfl, ho4, hb4⟩; have hw4 := own_wb ho4; clear ho4; unfold sl)
    | (go_at_call 14; refine (rwords_any s _ (by omega)).mono ?_; rintro e w5 ⟨rfl, ho5, hb5⟩; have hw5 := own_wb ho5; clear ho5; unfold sl)
    | (go_at_call 12; refine (same_any _ _ _ _ _ _ _ _ _ _ ((hw4.on hb5).whole (wd_len _ _ _)) (hw5.whole (wd_len _ _ _)) (by unfold cnt; omega) (by unfold cnt; omega)).mono ?_; rintro e w6 ⟨rfl, hb6⟩; rw [eqB_self])
    | (go_at_call 15; refine (countI_any _ _ (by omega)).mono ?_; rintro e w' ⟨rfl, rfl⟩; rw [HC.out])
    | (go_at_call 16; refine (intact_any A n c w.heap.size xs 7 _ (hx.on (after (after (after (after (after hb1 hb2) hb3) hb4) hb5) hb6)) (Blk.lt (hw1.on (after (after (after (after hb2 hb3) hb4) hb5) hb6))) (hw1.on (after (after (after (after hb2 hb3) hb4) hb5) hb6)) (by omega)).mono ?_; rintro e w7 ⟨rfl, hb7⟩)
    | (go_at_call 17; refine (runs _).mono ?_; rintro e w8 ⟨rfl, hb8⟩)
    | fail)
  go_ret
  exact ⟨rfl, after (after (after (after (after (after (after hb1 hb2) hb3) hb4) hb5) hb6) hb7) hb8⟩
set_option maxHeartbeats 3200000 in
theorem tells_bigr10 (s0 s : ByteArray) (A : Option Addr) (n0 n c : Nat) (m : Int) (xs : List Int) (runs : ∀ w, Calls Try.prog 17 #[] w fun e w' => e = .returned (.bool true) ∧ Below w.heap.size w w') (w : World)
    (HX : Hid (s = s0.extract 0 300)) (hs0 : (300 : Int) < s0.size) (hs : s.size ≤ 300) (hn0 : True) (hx : Reads w w.heap.size 1 A n (u64s xs)) (hn : n ≤ 60) (h64 : W64 xs) (hbad : m < 0 ∨ 8 * (n : Int) < m) (h0 : 0 < m) (hm : m ≤ 9223372036854775807) (hr : 0 < m % 8) :
    Calls Try.prog 3 #[.string s0, .slice A n c, .int .i64 m] w fun e w' => e = .returned (.bool true) ∧ Below w.heap.size w w' := by
  have LX : Hid (xs.length = n) := hx.u64
  have hs2 : (300 : Int) ≤ s0.size := by omega
  have hn' : ¬ (60 : Int) < n := by omega
  have HC : Hid (cntI m = m / 8 + 1) := by show cntI m = _; unfold cntI; rw [if_neg (by omega)]; omega
  go_enter Try.func3, Try.ntmps3
  go_wp2_with (first
    | (go_at_call 9; refine (roomy_any A n c xs 7 _ hx (by omega)).mono ?_; rintro e w1 ⟨rfl, hw1, hb1⟩; unfold sl; rw [LX.out])
    | (go_at_call 10; refine (pbytes_bad _ n _ m _ (by omega) hbad).mono ?_; rintro e w2 ⟨rfl, hq2⟩; have hb2 : Below w1.heap.size w1 w2 := (by rw [hq2]; exact Below.refl _ _); clear hq2; unfold badV)
    | (go_at_call 11; refine (rbytes_bad A n c m _ (by omega) hbad).mono ?_; rintro e w3 ⟨rfl, hq3⟩; have hb3 : Below w2.heap.size w2 w3 := (by rw [hq3]; exact Below.refl _ _); clear hq3; unfold badV)
    | (go_at_call 13; rw [← HX.out]; refine (pwords_any s _ (by omega)).mono ?_; rintro e w4 ⟨rfl, ho4, hb4⟩; have hw4 := own_wb ho4; clear ho4; unfold sl)
    | (go_at_call 14; refine (rwords_any s _ (by omega)).mono ?_; rintro e w5 ⟨rfl, ho5, hb5⟩; have hw5 := own_wb ho5; clear ho5; unfold sl)
    | (go_at_call 12; refine (same_any _ _ _ _ _ _ _ _ _ _ ((hw4.on hb5).whole (wd_len _ _ _)) (hw5.whole (wd_len _ _ _)) (by unfold cnt; omega) (by unfold cnt; omega)).mono ?_; rintro e w6 ⟨rfl, hb6⟩; rw [eqB_self])
    | (go_at_call 15; refine (countI_any _ _ (by omega)).mono ?_; rintro e w' ⟨rfl, rfl⟩; rw [HC.out])
    | (go_at_call 16; refine (intact_any A n c w.heap.size xs 7 _ (hx.on (after (after (after (after (after hb1 hb2) hb3) hb4) hb5) hb6)) (Blk.lt (hw1.on (after (after (after (after hb2 hb3) hb4) hb5) hb6))) (hw1.on (after (after (after (after hb2 hb3) hb4) hb5) hb6)) (by omega)).mono ?_; rintro e w7 ⟨rfl, hb7⟩)
    | (go_at_call 17; refine (runs _).mono ?_; rintro e w8 ⟨rfl, hb8⟩)
    | fail)
  go_ret
  exact ⟨rfl, after (after (after (after (after (after (after hb1 hb2) hb3) hb4) hb5) hb6) hb7) hb8⟩
set_option maxHeartbeats 3200000 in
theorem tells_ot10 (s0 s : ByteArray) (A : Option Addr) (n0 n c : Nat) (m : Nat) (xs : List Int) (runs : ∀ w, Calls Try.prog 17 #[] w fun e w' => e = .returned (.bool true) ∧ Below w.heap.size w w') (w : World)
    (HX : Hid (s = s0.extract 0 300)) (hs0 : (300 : Int) < s0.size) (hs : s.size ≤ 300) (hn0 : True) (hx : Reads w w.heap.size 1 A n (u64s xs)) (hn : n ≤ 60) (h64 : W64 xs) (hm : m ≤ 8 * n) (hz : zfB xs m = true) (h0 : (m : Int) ≤ 0) :
    Calls Try.prog 3 #[.string s0, .slice A n c, .int .i64 m] w fun e w' => e = .returned (.bool true) ∧ Below w.heap.size w w' := by
  have LX : Hid (xs.length = n) := hx.u64
  have hs2 : (300 : Int) ≤ s0.size := by omega
  have hn' : ¬ (60 : Int) < n := by omega
  have HZ : Hid (zfB xs m = restB xs m) := zf_rest xs m h64 (by rw [LX.out]; exact hm)
  have HC : Hid (cntI (m : Int) = 0) := if_pos h0
  go_enter Try.func3, Try.ntmps3
  go_wp2_with (first
    | (go_at_call 9; refine (roomy_any A n c xs 7 _ hx (by omega)).mono ?_; rintro e w1 ⟨rfl, hw1, hb1⟩; unfold sl; rw [LX.out])
    | (go_at_call 10; refine (pbytes_any _ n _ m xs _ (room_reads hw1 (Blk.lt hw1) LX.out) (by omega) hm).mono ?_; rintro e w2 ⟨rfl, hb2⟩; rw [hz, bytesV_t])
    | (go_at_call 11; refine (rbytes_any A n c m xs _ (hx.on (after hb1 hb2)) (by omega) hm).mono ?_; rintro e w3 ⟨rfl, hb3⟩; rw [← HZ.out, hz, bytesV_t])
    | (go_at_call 13; rw [← HX.out]; refine (pwords_any s _ (by omega)).mono ?_; rintro e w4 ⟨rfl, ho4, hb4⟩; have hw4 := own_wb ho4; clear ho4; unfold sl)
    | (go_at_call 14; refine (rwords_any s _ (by omega)).mono ?_; rintro e w5 ⟨rfl, ho5, hb5⟩; have hw5 := own_wb ho5; clear ho5; unfold sl)
    | (go_at_call 12; refine (same_any _ _ _ _ _ _ _ _ _ _ ((hw4.on hb5).whole (wd_len _ _ _)) (hw5.whole (wd_len _ _ _)) (by unfold cnt; omega) (by unfold cnt; omega)).mono ?_; rintro e w6 ⟨rfl, hb6⟩; rw [eqB_self])
    | (go_at_call 15; refine (countI_any _ _ (by omega)).mono ?_; rintro e w' ⟨rfl, rfl⟩; rw [HC.out])
    | (go_at_call 16; refine (intact_any A n c w.heap.size xs 7 _ (hx.on (after (after (after (after (after hb1 hb2) hb3) hb4) hb5) hb6)) (Blk.lt (hw1.on (after (after (after (after hb2 hb3) hb4) hb5) hb6))) (hw1.on (after (after (after (after hb2 hb3) hb4) hb5) hb6)) (by omega)).mono ?_; rintro e w7 ⟨rfl, hb7⟩)
    | (go_at_call 17; refine (runs _).mono ?_; rintro e w8 ⟨rfl, hb8⟩)
    | fail)
  go_ret
  exact ⟨rfl, after (after (after (after (after (after (after hb1 hb2) hb3) hb4) hb5) hb6) hb7) hb8⟩
set_option maxHeartbeats 3200000 in
theorem tells_et10 (s0 s : ByteArray) (A : Option Addr) (n0 n c : Nat) (m : Nat) (xs : List Int) (runs : ∀ w, Calls Try.prog 17 #[] w fun e w' => e = .returned (.bool true) ∧ Below w.heap.size w w') (w : World)
    (HX : Hid (s = s0.extract 0 300)) (hs0 : (300 : Int) < s0.size) (hs : s.size ≤ 300) (hn0 : True) (hx : Reads w w.heap.size 1 A n (u64s xs)) (hn : n ≤ 60) (h64 : W64 xs) (hm : m ≤ 8 * n) (hz : zfB xs m = true) (h0 : (0 : Int) < m) (hr : ¬ (0 : Int) < (m : Int) % 8) :
    Calls Try.prog 3 #[.string s0, .slice A n c, .int .i64 m] w fun e w' => e = .returned (.bool true) ∧ Below w.heap.size w w' := by
  have LX : Hid (xs.length = n) := hx.u64
  have hs2 : (300 : Int) ≤ s0.size := by omega
  have hn' : ¬ (60 : Int) < n := by omega
  have HZ : Hid (zfB xs m = restB xs m) := zf_rest xs m h64 (by rw [LX.out]; exact hm)
  have HC : Hid (cntI (m : Int) = (m : Int) / 8) := by show cntI (m : Int) = _; unfold cntI; rw [if_neg (by omega)]; omega
  go_enter Try.func3, Try.ntmps3
  go_wp2_with (first
    | (go_at_call 9; refine (roomy_any A n c xs 7 _ hx (by omega)).mono ?_; rintro e w1 ⟨rfl, hw1, hb1⟩; unfold sl; rw [LX.out])
    | (go_at_call 10; refine (pbytes_any _ n _ m xs _ (room_reads hw1 (Blk.lt hw1) LX.out) (by omega) hm).mono ?_; rintro e w2 ⟨rfl, hb2⟩; rw [hz, bytesV_t])
    | (go_at_call 11; refine (rbytes_any A n c m xs _ (hx.on (after hb1 hb2)) (by omega) hm).mono ?_; rintro e w3 ⟨rfl, hb3⟩; rw [← HZ.out, hz, bytesV_t])
    | (go_at_call 13; rw [← HX.out]; refine (pwords_any s _ (by omega)).mono ?_; rintro e w4 ⟨rfl, ho4, hb4⟩; have hw4 := own_wb ho4; clear ho4; unfold sl)
    | (go_at_call 14; refine (rwords_any s _ (by omega)).mono ?_; rintro e w5 ⟨rfl, ho5, hb5⟩; have hw5 := own_wb ho5; clear ho5; unfold sl)
    | (go_at_call 12; refine (same_any _ _ _ _ _ _ _ _ _ _ ((hw4.on hb5).whole (wd_len _ _ _)) (hw5.whole (wd_len _ _ _)) (by unfold cnt; omega) (by unfold cnt; omega)).mono ?_; rintro e w6 ⟨rfl, hb6⟩; rw [eqB_self])
    | (go_at_call 15; refine (countI_any _ _ (by omega)).mono ?_; rintro e w' ⟨rfl, rfl⟩; rw [HC.out])
    | (go_at_call 16; refine (intact_any A n c w.heap.size xs 7 _ (hx.on (after (after (after (after (after hb1 hb2) hb3) hb4) hb5) hb6)) (Blk.lt (hw1.on (after (after (after (after hb2 hb3) hb4) hb5) hb6))) (hw1.on (after (after (after (after hb2 hb3) hb4) hb5) hb6)) (by omega)).mono ?_; rintro e w7 ⟨rfl, hb7⟩)
    | (go_at_call 17; refine (runs _).mono ?_; rintro e w8 ⟨rfl, hb8⟩)
    | fail)
  go_ret
  exact ⟨rfl, after (after (after (after (after (after (after hb1 hb2) hb3) hb4) hb5) hb6) hb7) hb8⟩
set_option maxHeartbeats 3200000 in
theorem tells_rt10 (s0 s : ByteArray) (A : Option Addr) (n0 n c : Nat) (m : Nat) (xs : List Int) (runs : ∀ w, Calls Try.prog 17 #[] w fun e w' => e = .returned (.bool true) ∧ Below w.heap.size w w') (w : World)
    (HX : Hid (s = s0.extract 0 300)) (hs0 : (300 : Int) < s0.size) (hs : s.size ≤ 300) (hn0 : True) (hx : Reads w w.heap.size 1 A n (u64s xs)) (hn : n ≤ 60) (h64 : W64 xs) (hm : m ≤ 8 * n) (hz : zfB xs m = true) (h0 : (0 : Int) < m) (hr : (0 : Int) < (m : Int) % 8) :
    Calls Try.prog 3 #[.string s0, .slice A n c, .int .i64 m] w fun e w' => e = .returned (.bool true) ∧ Below w.heap.size w w' := by
  have LX : Hid (xs.length = n) := hx.u64
  have hs2 : (300 : Int) ≤ s0.size := by omega
  have hn' : ¬ (60 : Int) < n := by omega
  have HZ : Hid (zfB xs m = restB xs m) := zf_rest xs m h64 (by rw [LX.out]; exact hm)
  have HC : Hid (cntI (m : Int) = (m : Int) / 8 + 1) := by show cntI (m : Int) = _; unfold cntI; rw [if_neg (by omega)]; omega
  go_enter Try.func3, Try.ntmps3
  go_wp2_with (first
    | (go_at_call 9; refine (roomy_any A n c xs 7 _ hx (by omega)).mono ?_; rintro e w1 ⟨rfl, hw1, hb1⟩; unfold sl; rw [LX.out])
    | (go_at_call 10; refine (pbytes_any _ n _ m xs _ (room_reads hw1 (Blk.lt hw1) LX.out) (by omega) hm).mono ?_; rintro e w2 ⟨rfl, hb2⟩; rw [hz, bytesV_t])
    | (go_at_call 11; refine (rbytes_any A n c m xs _ (hx.on (after hb1 hb2)) (by omega) hm).mono ?_; rintro e w3 ⟨rfl, hb3⟩; rw [← HZ.out, hz, bytesV_t])
    | (go_at_call 13; rw [← HX.out]; refine (pwords_any s _ (by omega)).mono ?_; rintro e w4 ⟨rfl, ho4, hb4⟩; have hw4 := own_wb ho4; clear ho4; unfold sl)
    | (go_at_call 14; refine (rwords_any s _ (by omega)).mono ?_; rintro e w5 ⟨rfl, ho5, hb5⟩; have hw5 := own_wb ho5; clear ho5; unfold sl)
    | (go_at_call 12; refine (same_any _ _ _ _ _ _ _ _ _ _ ((hw4.on hb5).whole (wd_len _ _ _)) (hw5.whole (wd_len _ _ _)) (by unfold cnt; omega) (by unfold cnt; omega)).mono ?_; rintro e w6 ⟨rfl, hb6⟩; rw [eqB_self])
    | (go_at_call 15; refine (countI_any _ _ (by omega)).mono ?_; rintro e w' ⟨rfl, rfl⟩; rw [HC.out])
    | (go_at_call 16; refine (intact_any A n c w.heap.size xs 7 _ (hx.on (after (after (after (after (after hb1 hb2) hb3) hb4) hb5) hb6)) (Blk.lt (hw1.on (after (after (after (after hb2 hb3) hb4) hb5) hb6))) (hw1.on (after (after (after (after hb2 hb3) hb4) hb5) hb6)) (by omega)).mono ?_; rintro e w7 ⟨rfl, hb7⟩)
    | (go_at_call 17; refine (runs _).mono ?_; rintro e w8 ⟨rfl, hb8⟩)
    | fail)
  go_ret
  exact ⟨rfl, after (after (after (after (after (after (after hb1 hb2) hb3) hb4) hb5) hb6) hb7) hb8⟩
set_option maxHeartbeats 3200000 in
theorem tells_of10 (s0 s : ByteArray) (A : Option Addr) (n0 n c : Nat) (m : Nat) (xs : List Int) (runs : ∀ w, Calls Try.prog 17 #[] w fun e w' => e = .returned (.bool true) ∧ Below w.heap.size w w') (w : World)
    (HX : Hid (s = s0.extract 0 300)) (hs0 : (300 : Int) < s0.size) (hs : s.size ≤ 300) (hn0 : True) (hx : Reads w w.heap.size 1 A n (u64s xs)) (hn : n ≤ 60) (h64 : W64 xs) (hm : m ≤ 8 * n) (hz : zfB xs m = false) (h0 : (m : Int) ≤ 0) :
    Calls Try.prog 3 #[.string s0, .slice A n c, .int .i64 m] w fun e w' => e = .returned (.bool true) ∧ Below w.heap.size w w' := by
  have LX : Hid (xs.length = n) := hx.u64
  have hs2 : (300 : Int) ≤ s0.size := by omega
  have hn' : ¬ (60 : Int) < n := by omega
  have HZ : Hid (zfB xs m = restB xs m) := zf_rest xs m h64 (by rw [LX.out]; exact hm)
  have HC : Hid (cntI (m : Int) = 0) := if_pos h0
  go_enter Try.func3, Try.ntmps3
  go_wp2_with (first
    | (go_at_call 9; refine (roomy_any A n c xs 7 _ hx (by omega)).mono ?_; rintro e w1 ⟨rfl, hw1, hb1⟩; unfold sl; rw [LX.out])
    | (go_at_call 10; refine (pbytes_any _ n _ m xs _ (room_reads hw1 (Blk.lt hw1) LX.out) (by omega) hm).mono ?_; rintro e w2 ⟨rfl, hb2⟩; rw [hz, bytesV_f])
    | (go_at_call 11; refine (rbytes_any A n c m xs _ (hx.on (after hb1 hb2)) (by omega) hm).mono ?_; rintro e w3 ⟨rfl, hb3⟩; rw [← HZ.out, hz, bytesV_f])
    | (go_at_call 13; rw [← HX.out]; refine (pwords_any s _ (by omega)).mono ?_; rintro e w4 ⟨rfl, ho4, hb4⟩; have hw4 := own_wb ho4; clear ho4; unfold sl)
    | (go_at_call 14; refine (rwords_any s _ (by omega)).mono ?_; rintro e w5 ⟨rfl, ho5, hb5⟩; have hw5 := own_wb ho5; clear ho5; unfold sl)
    | (go_at_call 12; refine (same_any _ _ _ _ _ _ _ _ _ _ ((hw4.on hb5).whole (wd_len _ _ _)) (hw5.whole (wd_len _ _ _)) (by unfold cnt; omega) (by unfold cnt; omega)).mono ?_; rintro e w6 ⟨rfl, hb6⟩; rw [eqB_self])
    | (go_at_call 15; refine (countI_any _ _ (by omega)).mono ?_; rintro e w' ⟨rfl, rfl⟩; rw [HC.out])
    | (go_at_call 16; refine (intact_any A n c w.heap.size xs 7 _ (hx.on (after (after (after (after (after hb1 hb2) hb3) hb4) hb5) hb6)) (Blk.lt (hw1.on (after (after (after (after hb2 hb3) hb4) hb5) hb6))) (hw1.on (after (after (after (after hb2 hb3) hb4) hb5) hb6)) (by omega)).mono ?_; rintro e w7 ⟨rfl, hb7⟩)
    | (go_at_call 17; refine (runs _).mono ?_; rintro e w8 ⟨rfl, hb8⟩)
    | fail)
  go_ret
  exact ⟨rfl, after (after (after (after (after (after (after hb1 hb2) hb3) hb4) hb5) hb6) hb7) hb8⟩
set_option maxHeartbeats 3200000 in
theorem tells_ef10 (s0 s : ByteArray) (A : Option Addr) (n0 n c : Nat) (m : Nat) (xs : List Int) (runs : ∀ w, Calls Try.prog 17 #[] w fun e w' => e = .returned (.bool true) ∧ Below w.heap.size w w') (w : World)
    (HX : Hid (s = s0.extract 0 300)) (hs0 : (300 : Int) < s0.size) (hs : s.size ≤ 300) (hn0 : True) (hx : Reads w w.heap.size 1 A n (u64s xs)) (hn : n ≤ 60) (h64 : W64 xs) (hm : m ≤ 8 * n) (hz : zfB xs m = false) (h0 : (0 : Int) < m) (hr : ¬ (0 : Int) < (m : Int) % 8) :
    Calls Try.prog 3 #[.string s0, .slice A n c, .int .i64 m] w fun e w' => e = .returned (.bool true) ∧ Below w.heap.size w w' := by
  have LX : Hid (xs.length = n) := hx.u64
  have hs2 : (300 : Int) ≤ s0.size := by omega
  have hn' : ¬ (60 : Int) < n := by omega
  have HZ : Hid (zfB xs m = restB xs m) := zf_rest xs m h64 (by rw [LX.out]; exact hm)
  have HC : Hid (cntI (m : Int) = (m : Int) / 8) := by show cntI (m : Int) = _; unfold cntI; rw [if_neg (by omega)]; omega
  go_enter Try.func3, Try.ntmps3
  go_wp2_with (first
    | (go_at_call 9; refine (roomy_any A n c xs 7 _ hx (by omega)).mono ?_; rintro e w1 ⟨rfl, hw1, hb1⟩; unfold sl; rw [LX.out])
    | (go_at_call 10; refine (pbytes_any _ n _ m xs _ (room_reads hw1 (Blk.lt hw1) LX.out) (by omega) hm).mono ?_; rintro e w2 ⟨rfl, hb2⟩; rw [hz, bytesV_f])
    | (go_at_call 11; refine (rbytes_any A n c m xs _ (hx.on (after hb1 hb2)) (by omega) hm).mono ?_; rintro e w3 ⟨rfl, hb3⟩; rw [← HZ.out, hz, bytesV_f])
    | (go_at_call 13; rw [← HX.out]; refine (pwords_any s _ (by omega)).mono ?_; rintro e w4 ⟨rfl, ho4, hb4⟩; have hw4 := own_wb ho4; clear ho4; unfold sl)
    | (go_at_call 14; refine (rwords_any s _ (by omega)).mono ?_; rintro e w5 ⟨rfl, ho5, hb5⟩; have hw5 := own_wb ho5; clear ho5; unfold sl)
    | (go_at_call 12; refine (same_any _ _ _ _ _ _ _ _ _ _ ((hw4.on hb5).whole (wd_len _ _ _)) (hw5.whole (wd_len _ _ _)) (by unfold cnt; omega) (by unfold cnt; omega)).mono ?_; rintro e w6 ⟨rfl, hb6⟩; rw [eqB_self])
    | (go_at_call 15; refine (countI_any _ _ (by omega)).mono ?_; rintro e w' ⟨rfl, rfl⟩; rw [HC.out])
    | (go_at_call 16; refine (intact_any A n c w.heap.size xs 7 _ (hx.on (after (after (after (after (after hb1 hb2) hb3) hb4) hb5) hb6)) (Blk.lt (hw1.on (after (after (after (after hb2 hb3) hb4) hb5) hb6))) (hw1.on (after (after (after (after hb2 hb3) hb4) hb5) hb6)) (by omega)).mono ?_; rintro e w7 ⟨rfl, hb7⟩)
    | (go_at_call 17; refine (runs _).mono ?_; rintro e w8 ⟨rfl, hb8⟩)
    | fail)
  go_ret
  exact ⟨rfl, after (after (after (after (after (after (after hb1 hb2) hb3) hb4) hb5) hb6) hb7) hb8⟩
set_option maxHeartbeats 3200000 in
theorem tells_rf10 (s0 s : ByteArray) (A : Option Addr) (n0 n c : Nat) (m : Nat) (xs : List Int) (runs : ∀ w, Calls Try.prog 17 #[] w fun e w' => e = .returned (.bool true) ∧ Below w.heap.size w w') (w : World)
    (HX : Hid (s = s0.extract 0 300)) (hs0 : (300 : Int) < s0.size) (hs : s.size ≤ 300) (hn0 : True) (hx : Reads w w.heap.size 1 A n (u64s xs)) (hn : n ≤ 60) (h64 : W64 xs) (hm : m ≤ 8 * n) (hz : zfB xs m = false) (h0 : (0 : Int) < m) (hr : (0 : Int) < (m : Int) % 8) :
    Calls Try.prog 3 #[.string s0, .slice A n c, .int .i64 m] w fun e w' => e = .returned (.bool true) ∧ Below w.heap.size w w' := by
  have LX : Hid (xs.length = n) := hx.u64
  have hs2 : (300 : Int) ≤ s0.size := by omega
  have hn' : ¬ (60 : Int) < n := by omega
  have HZ : Hid (zfB xs m = restB xs m) := zf_rest xs m h64 (by rw [LX.out]; exact hm)
  have HC : Hid (cntI (m : Int) = (m : Int) / 8 + 1) := by show cntI (m : Int) = _; unfold cntI; rw [if_neg (by omega)]; omega
  go_enter Try.func3, Try.ntmps3
  go_wp2_with (first
    | (go_at_call 9; refine (roomy_any A n c xs 7 _ hx (by omega)).mono ?_; rintro e w1 ⟨rfl, hw1, hb1⟩; unfold sl; rw [LX.out])
    | (go_at_call 10; refine (pbytes_any _ n _ m xs _ (room_reads hw1 (Blk.lt hw1) LX.out) (by omega) hm).mono ?_; rintro e w2 ⟨rfl, hb2⟩; rw [hz, bytesV_f])
    | (go_at_call 11; refine (rbytes_any A n c m xs _ (hx.on (after hb1 hb2)) (by omega) hm).mono ?_; rintro e w3 ⟨rfl, hb3⟩; rw [← HZ.out, hz, bytesV_f])
    | (go_at_call 13; rw [← HX.out]; refine (pwords_any s _ (by omega)).mono ?_; rintro e w4 ⟨rfl, ho4, hb4⟩; have hw4 := own_wb ho4; clear ho4; unfold sl)
    | (go_at_call 14; refine (rwords_any s _ (by omega)).mono ?_; rintro e w5 ⟨rfl, ho5, hb5⟩; have hw5 := own_wb ho5; clear ho5; unfold sl)
    | (go_at_call 12; refine (same_any _ _ _ _ _ _ _ _ _ _ ((hw4.on hb5).whole (wd_len _ _ _)) (hw5.whole (wd_len _ _ _)) (by unfold cnt; omega) (by unfold cnt; omega)).mono ?_; rintro e w6 ⟨rfl, hb6⟩; rw [eqB_self])
    | (go_at_call 15; refine (countI_any _ _ (by omega)).mono ?_; rintro e w' ⟨rfl, rfl⟩; rw [HC.out])
    | (go_at_call 16; refine (intact_any A n c w.heap.size xs 7 _ (hx.on (after (after (after (after (after hb1 hb2) hb3) hb4) hb5) hb6)) (Blk.lt (hw1.on (after (after (after (after hb2 hb3) hb4) hb5) hb6))) (hw1.on (after (after (after (after hb2 hb3) hb4) hb5) hb6)) (by omega)).mono ?_; rintro e w7 ⟨rfl, hb7⟩)
    | (go_at_call 17; refine (runs _).mono ?_; rintro e w8 ⟨rfl, hb8⟩)
    | fail)
  go_ret
  exact ⟨rfl, after (after (after (after (after (after (after hb1 hb2) hb3) hb4) hb5) hb6) hb7) hb8⟩
theorem tells10 (s0 s : ByteArray) (A : Option Addr) (n0 n c : Nat) (m : Int) (xs : List Int) (runs : ∀ w, Calls Try.prog 17 #[] w fun e w' => e = .returned (.bool true) ∧ Below w.heap.size w w') (w : World)
    (HX : Hid (s = s0.extract 0 300)) (hs0 : (300 : Int) < s0.size) (hs : s.size ≤ 300) (hn0 : True) (hx : Reads w w.heap.size 1 A n (u64s xs)) (hn : n ≤ 60) (h64 : W64 xs) (hm : m ≤ 9223372036854775807) :
    Calls Try.prog 3 #[.string s0, .slice A n c, .int .i64 m] w fun e w' => e = .returned (.bool true) ∧ Below w.heap.size w w' := by
  by_cases hb : m < 0 ∨ 8 * (n : Int) < m
  · by_cases h0 : m ≤ 0
    · exact tells_neg10 s0 s A n0 n c m xs runs w HX hs0 hs hn0 hx hn h64 hb h0
    · by_cases hr : 0 < m % 8
      · exact tells_bigr10 s0 s A n0 n c m xs runs w HX hs0 hs hn0 hx hn h64 hb (by omega) hm hr
      · exact tells_big10 s0 s A n0 n c m xs runs w HX hs0 hs hn0 hx hn h64 hb (by omega) hm hr
  · obtain ⟨k, rfl⟩ : ∃ k : Nat, m = k := ⟨m.toNat, by omega⟩
    have hk : k ≤ 8 * n := by omega
    cases hz : zfB xs k
    · by_cases h0 : (k : Int) ≤ 0
      · exact tells_of10 s0 s A n0 n c k xs runs w HX hs0 hs hn0 hx hn h64 hk hz h0
      · by_cases hr : (0 : Int) < (k : Int) % 8
        · exact tells_rf10 s0 s A n0 n c k xs runs w HX hs0 hs hn0 hx hn h64 hk hz (by omega) hr
        · exact tells_ef10 s0 s A n0 n c k xs runs w HX hs0 hs hn0 hx hn h64 hk hz (by omega) hr
    · by_cases h0 : (k : Int) ≤ 0
      · exact tells_ot10 s0 s A n0 n c k xs runs w HX hs0 hs hn0 hx hn h64 hk hz h0
      · by_cases hr : (0 : Int) < (k : Int) % 8
        · exact tells_rt10 s0 s A n0 n c k xs runs w HX hs0 hs hn0 hx hn h64 hk hz (by omega) hr
        · exact tells_et10 s0 s A n0 n c k xs runs w HX hs0 hs hn0 hx hn h64 hk hz (by omega) hr
end Go.Proofs.Ytdkokpaboipamaa
