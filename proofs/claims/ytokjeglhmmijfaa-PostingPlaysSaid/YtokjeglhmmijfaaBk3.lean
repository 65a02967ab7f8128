/-
  Numbers by sevens of bits: read leniently, and appended, as the program and the document do; conditions: sizes.
-/
import Derived.Test.YtokjeglhmmijfaaBk2
import Derived.Laws.BitsLemmas
namespace Go.Proofs.Ytokjeglhmmijfaa
open Go.RowKit Go.WideShapes Go.ChangeShapes
set_option linter.all false
theorem wraps_i64 (n : Int) (h₀ : 0 ≤ n) (h₁ : n < 2 ^ 63) : IntKind.i64.wrap n = n := by
  have h2 : ¬ n % 18446744073709551616 ≥ 9223372036854775808 := by omega
  simp [IntKind.wrap, IntKind.bits, IntKind.signed, h2]
  omega
theorem or_comm_i64 (x y : Int) : bits .or .i64 x y = bits .or .i64 y x := by
  simp only [bits, BitVec.or_comm]
theorem and_checks : ((List.range 256).all fun c => (bits .and .u8 (c : Int) 127 == ((c % 128 : Nat) : Int)) && ((bits .and .u8 (c : Int) 128 == 0) == decide (c < 128))) = true := by kernel_rfl
theorem and127 {c : Nat} (h : c < 256) : bits .and .u8 (c : Int) 127 = ((c % 128 : Nat) : Int) := by
  have := List.all_eq_true.1 and_checks c (List.mem_range.2 h)
  rw [Bool.and_eq_true] at this
  simpa using this.1
theorem and128 {c : Nat} (h : c < 256) : (bits .and .u8 (c : Int) 128 == 0) = decide (c < 128) := by
  have := List.all_eq_true.1 and_checks c (List.mem_range.2 h)
  rw [Bool.and_eq_true] at this
  simpa using this.2
theorem or_shift (i a m : Nat) (ha : a < 2 ^ i) (hm : m < 128) (hi : i ≤ 28) : bits .or .i64 (a : Int) ((m : Int) * 2 ^ i) = ((a + m * 2 ^ i : Nat) : Int) := by
  have hp : 2 ^ i ≤ 2 ^ 28 := Nat.pow_le_pow_right (by omega) hi
  have h1 : m * 2 ^ i ≤ 127 * 2 ^ i := Nat.mul_le_mul_right _ (by omega)
  have e1 : ((m : Int) * 2 ^ i) = ((m * 2 ^ i : Nat) : Int) := by simp
  rw [or_comm_i64, e1]
  have ha' : (a : Int) < 2 ^ i := by have : ((2 ^ i : Nat) : Int) = 2 ^ i := by simp
                                     omega
  have := bits_join .i64 63 (by decide) wraps_i64 i ((m * 2 ^ i : Nat) : Int) (a : Int) (by omega) (by rw [← e1]; exact Int.mul_emod_left _ _) (by omega) (by omega) ha' (by omega)
  rw [this]; omega
/-- Bytes as cells. -/
def nb (bs : List Nat) : List Int := bs.map Nat.cast
theorem nb_at {bs : List Nat} {k : Nat} (h : k < bs.length) : (nb bs).getD k 0 = ((bs.getD k 0 : Nat) : Int) := by
  unfold nb
  rw [List.getD_eq_getElem?_getD, List.getD_eq_getElem?_getD, List.getElem?_map, List.getElem?_eq_getElem h]; rfl
theorem nb_append (a b : List Nat) : nb (a ++ b) = nb a ++ nb b := List.map_append
theorem ndrop_at {xs : List Nat} {i : Nat} (h : i < xs.length) : xs.drop i = xs.getD i 0 :: xs.drop (i + 1) := by
  rw [List.drop_eq_getElem_cons h, List.getD_eq_getElem?_getD, List.getElem?_eq_getElem h]; rfl
theorem numP_end {bs : List Nat} {i a : Nat} (h : i = bs.length) : numP (bs.drop i) i a = (0, 0) := by rw [h, List.drop_length, numP]
theorem numP_five {bs : List Nat} {a : Nat} : numP bs 5 a = (0, 0) := by cases bs <;> simp [numP]
theorem numP_last {bs : List Nat} {i a : Nat} (h : i < bs.length) (hi : i < 5) (hc : bs.getD i 0 < 128) : numP (bs.drop i) i a = (a + bs.getD i 0 % 128 * 128 ^ i, i + 1) := by
  rw [ndrop_at h, numP, if_neg (by omega), if_pos hc]
theorem numP_more {bs : List Nat} {i a : Nat} (h : i < bs.length) (hi : i < 5) (hc : ¬ bs.getD i 0 < 128) : numP (bs.drop i) i a = numP (bs.drop (i + 1)) (i + 1) (a + bs.getD i 0 % 128 * 128 ^ i) := by
  rw [ndrop_at h, numP, if_neg (by omega), if_neg hc]
theorem ret_pair {a b c d : Int} (h1 : a = c) (h2 : b = d) : Ending.returned (.tuple #[.int .i64 a, .int .i64 b]) = .returned (.tuple #[.int .i64 c, .int .i64 d]) := by rw [h1, h2]
theorem w64 {x : Int} (h : 0 ≤ x) (h9 : x < 9223372036854775808) : wrap64 x = x := by
  unfold wrap64; omega
theorem orv (k a c : Nat) (P : Int) (hP : P = ((128 ^ k : Nat) : Int)) (hk : k < 5) (ha : a < 128 ^ k) (hc : c < 256) : bits .or .i64 (a : Int) (wrap64 (wrap64 (bits .and .u8 (c : Int) 127) * P)) = ((a + c % 128 * 128 ^ k : Nat) : Int) := by
  have hm : c % 128 < 128 := Nat.mod_lt _ (by omega)
  have hq : 128 ^ k ≤ 128 ^ 4 := Nat.pow_le_pow_right (by omega) (by omega)
  have h1 : c % 128 * 128 ^ k ≤ 127 * 128 ^ 4 := Nat.mul_le_mul (by omega) hq
  have e2 : (128 : Nat) ^ k = 2 ^ (7 * k) := by rw [Nat.pow_mul]
  rw [and127 hc, w64 (x := ((c % 128 : Nat) : Int)) (by omega) (by omega), hP]
  have e1 : ((c % 128 : Nat) : Int) * ((128 ^ k : Nat) : Int) = ((c % 128 * 128 ^ k : Nat) : Int) := by simp
  rw [w64 (x := ((c % 128 : Nat) : Int) * ((128 ^ k : Nat) : Int)) (by rw [e1]; omega) (by rw [e1]; omega)]
  rw [e2] at ha ⊢
  have := or_shift (7 * k) a (c % 128) ha hm (by omega)
  rw [← this]
  congr 1
theorem orv0 (a c : Nat) (ha : a < 128 ^ 0) (hc : c < 256) : bits .or .i64 (a : Int) (wrap64 (wrap64 (bits .and .u8 (c : Int) 127))) = ((a + c % 128 * 128 ^ 0 : Nat) : Int) := by
  have := orv 0 a c 1 rfl (by omega) ha hc
  rwa [Int.mul_one] at this
set_option maxRecDepth 100000 in
set_option maxHeartbeats 1600000 in
theorem number_any (B : Nat) (A : Option Addr) (n c : Nat) (bs : List Nat) (w : World) (hx : Reads w B 1 A n (ks .u8 (nb bs))) (hb : ∀ b ∈ bs, b < 256) (hn : n ≤ 9223372036854775807) :
    Calls Try.prog 53 #[.slice A n c] w fun e w' => e = .returned (.tuple #[.int .i64 ((numP bs 0 0).1 : Nat), .int .i64 ((numP bs 0 0).2 : Nat)]) ∧ w' = w := by
  have LX : Hid (bs.length = n) := Lib.hid (by have := hx.kl; unfold nb at this; rw [List.length_map] at this; exact this)
  go_enter Try.func53, Try.ntmps53
  go_wp2
  go_loop [2, 9] (fun s i => ∃ k a : Nat, k ≤ n ∧ k ≤ 5 ∧ i = .int .i64 k ∧ s = .int .i64 a ∧ Hid (a < 128 ^ k ∧ numP bs 0 0 = numP (bs.drop k) k a)) (fun _ i => n - (intOf i).toNat)
  case atStart => exact ⟨0, 0, Nat.zero_le _, by omega, rfl, rfl, Lib.hid ⟨by simp, rfl⟩⟩
  case round =>
    obtain ⟨k, a, hk, hk5, rfl, rfl, HA⟩ := hrel
    by_cases hlt : k < n
    · obtain ⟨ad, rfl, h1⟩ := hx.kat hlt
      have hlx : k < bs.length := by rw [LX.out]; exact hlt
      rw [nb_at hlx] at h1
      have HC := Lib.hid (hb (bs.getD k 0) (by rw [List.getD_eq_getElem?_getD, List.getElem?_eq_getElem hlx]; exact List.getElem_mem hlx))
      have HLX := Lib.hid hlx
      clear hlx
      have hk9 : (k : Int) < n := by omega
      have hk0 : (0 : Int) ≤ k := by omega
      rcases (show k = 0 ∨ k = 1 ∨ k = 2 ∨ k = 3 ∨ k = 4 ∨ k = 5 by omega) with rfl | rfl | rfl | rfl | rfl | rfl
      · have h1' : w.cell? ad = some (.int .u8 ((bs.getD 0 0 : Nat) : Int)) := by rw [← h1]; rfl
        by_cases hc : bs.getD 0 0 < 128
        · have HV := Lib.hid (orv0 a (bs.getD 0 0) HA.out.1 HC.out)
          have HE := Lib.hid (HA.out.2.trans (numP_last HLX.out (by omega) hc))
          have hd : (bits .and .u8 ((bs.getD 0 0 : Nat) : Int) 128 == 0) = true := by rw [and128 HC.out]; exact decide_eq_true hc
          clear hc
          generalize bs.getD 0 0 = d at *
          go_wp2
          go_ret2
          exact ⟨ret_pair (HV.out.trans (congrArg (fun q : Nat × Nat => (q.1 : Int)) HE.out).symm) (congrArg (fun q : Nat × Nat => (q.2 : Int)) HE.out).symm, rfl⟩
        · have HV := Lib.hid (orv0 a (bs.getD 0 0) HA.out.1 HC.out)
          have HE := Lib.hid (HA.out.2.trans (numP_more HLX.out (by omega) hc))
          have hd : (bits .and .u8 ((bs.getD 0 0 : Nat) : Int) 128 == 0) = false := by rw [and128 HC.out]; exact decide_eq_false hc
          have HB : Hid (a + bs.getD 0 0 % 128 * 128 ^ 0 < 128 ^ (0 + 1)) := Lib.hid (by have := HA.out.1; have hm := Nat.mod_lt (bs.getD 0 0) (show 128 > 0 by omega); simp only [Nat.reducePow, Nat.reduceAdd] at this ⊢; omega)
          clear hc
          generalize bs.getD 0 0 = d at *
          go_wp2
          go_round
          case rel => exact ⟨0 + 1, _, by omega, by omega, by first | rfl | go_num, congrArg (Value.int .i64) HV.out, Lib.hid ⟨HB.out, HE.out⟩⟩
          case measure => simp only [intOf]; omega
      · have h1' : w.cell? ⟨ad.block, ad.off + 1, none⟩ = some (.int .u8 ((bs.getD 1 0 : Nat) : Int)) := by rw [← h1]; rfl
        by_cases hc : bs.getD 1 0 < 128
        · have HV := Lib.hid (orv 1 a (bs.getD 1 0) 128 (by decide) (by omega) HA.out.1 HC.out)
          have HE := Lib.hid (HA.out.2.trans (numP_last HLX.out (by omega) hc))
          have hd : (bits .and .u8 ((bs.getD 1 0 : Nat) : Int) 128 == 0) = true := by rw [and128 HC.out]; exact decide_eq_true hc
          clear hc
          generalize bs.getD 1 0 = d at *
          go_wp2
          go_ret2
          exact ⟨ret_pair (HV.out.trans (congrArg (fun q : Nat × Nat => (q.1 : Int)) HE.out).symm) (congrArg (fun q : Nat × Nat => (q.2 : Int)) HE.out).symm, rfl⟩
        · have HV := Lib.hid (orv 1 a (bs.getD 1 0) 128 (by decide) (by omega) HA.out.1 HC.out)
          have HE := Lib.hid (HA.out.2.trans (numP_more HLX.out (by omega) hc))
          have hd : (bits .and .u8 ((bs.getD 1 0 : Nat) : Int) 128 == 0) = false := by rw [and128 HC.out]; exact decide_eq_false hc
          have HB : Hid (a + bs.getD 1 0 % 128 * 128 ^ 1 < 128 ^ (1 + 1)) := Lib.hid (by have := HA.out.1; have hm := Nat.mod_lt (bs.getD 1 0) (show 128 > 0 by omega); simp only [Nat.reducePow, Nat.reduceAdd] at this ⊢; omega)
          clear hc
          generalize bs.getD 1 0 = d at *
          go_wp2
          go_round
          case rel => exact ⟨1 + 1, _, by omega, by omega, by first | rfl | go_num, congrArg (Value.int .i64) HV.out, Lib.hid ⟨HB.out, HE.out⟩⟩
          case measure => simp only [intOf]; omega
      · have h1' : w.cell? ⟨ad.block, ad.off + 2, none⟩ = some (.int .u8 ((bs.getD 2 0 : Nat) : Int)) := by rw [← h1]; rfl
        by_cases hc : bs.getD 2 0 < 128
        · have HV := Lib.hid (orv 2 a (bs.getD 2 0) 16384 (by decide) (by omega) HA.out.1 HC.out)
          have HE := Lib.hid (HA.out.2.trans (numP_last HLX.out (by omega) hc))
          have hd : (bits .and .u8 ((bs.getD 2 0 : Nat) : Int) 128 == 0) = true := by rw [and128 HC.out]; exact decide_eq_true hc
          clear hc
          generalize bs.getD 2 0 = d at *
          go_wp2
          go_ret2
          exact ⟨ret_pair (HV.out.trans (congrArg (fun q : Nat × Nat => (q.1 : Int)) HE.out).symm) (congrArg (fun q : Nat × Nat => (q.2 : Int)) HE.out).symm, rfl⟩
        · have HV := Lib.hid (orv 2 a (bs.getD 2 0) 16384 (by decide) (by omega) HA.out.1 HC.out)
          have HE := Lib.hid (HA.out.2.trans (numP_more HLX.out (by omega) hc))
          have hd : (bits .and .u8 ((bs.getD 2 0 : Nat) : Int) 128 == 0) = false := by rw [and128 HC.out]; exact decide_eq_false hc
          have HB : Hid (a + bs.getD 2 0 % 128 * 128 ^ 2 < 128 ^ (2 + 1)) := Lib.hid (by have := HA.out.1; have hm := Nat.mod_lt (bs.getD 2 0) (show 128 > 0 by omega); simp only [Nat.reducePow, Nat.reduceAdd] at this ⊢; omega)
          clear hc
          generalize bs.getD 2 0 = d at *
          go_wp2
          go_round
          case rel => exact ⟨2 + 1, _, by omega, by omega, by first | rfl | go_num, congrArg (Value.int .i64) HV.out, Lib.hid ⟨HB.out, HE.out⟩⟩
          case measure => simp only [intOf]; omega
      · have h1' : w.cell? ⟨ad.block, ad.off + 3, none⟩ = some (.int .u8 ((bs.getD 3 0 : Nat) : Int)) := by rw [← h1]; rfl
        by_cases hc : bs.getD 3 0 < 128
        · have HV := Lib.hid (orv 3 a (bs.getD 3 0) 2097152 (by decide) (by omega) HA.out.1 HC.out)
          have HE := Lib.hid (HA.out.2.trans (numP_last HLX.out (by omega) hc))
          have hd : (bits .and .u8 ((bs.getD 3 0 : Nat) : Int) 128 == 0) = true := by rw [and128 HC.out]; exact decide_eq_true hc
          clear hc
          generalize bs.getD 3 0 = d at *
          go_wp2
          go_ret2
          exact ⟨ret_pair (HV.out.trans (congrArg (fun q : Nat × Nat => (q.1 : Int)) HE.out).symm) (congrArg (fun q : Nat × Nat => (q.2 : Int)) HE.out).symm, rfl⟩
        · have HV := Lib.hid (orv 3 a (bs.getD 3 0) 2097152 (by decide) (by omega) HA.out.1 HC.out)
          have HE := Lib.hid (HA.out.2.trans (numP_more HLX.out (by omega) hc))
          have hd : (bits .and .u8 ((bs.getD 3 0 : Nat) : Int) 128 == 0) = false := by rw [and128 HC.out]; exact decide_eq_false hc
          have HB : Hid (a + bs.getD 3 0 % 128 * 128 ^ 3 < 128 ^ (3 + 1)) := Lib.hid (by have := HA.out.1; have hm := Nat.mod_lt (bs.getD 3 0) (show 128 > 0 by omega); simp only [Nat.reducePow, Nat.reduceAdd] at this ⊢; omega)
          clear hc
          generalize bs.getD 3 0 = d at *
          go_wp2
          go_round
          case rel => exact ⟨3 + 1, _, by omega, by omega, by first | rfl | go_num, congrArg (Value.int .i64) HV.out, Lib.hid ⟨HB.out, HE.out⟩⟩
          case measure => simp only [intOf]; omega
      · have h1' : w.cell? ⟨ad.block, ad.off + 4, none⟩ = some (.int .u8 ((bs.getD 4 0 : Nat) : Int)) := by rw [← h1]; rfl
        by_cases hc : bs.getD 4 0 < 128
        · have HV := Lib.hid (orv 4 a (bs.getD 4 0) 268435456 (by decide) (by omega) HA.out.1 HC.out)
          have HE := Lib.hid (HA.out.2.trans (numP_last HLX.out (by omega) hc))
          have hd : (bits .and .u8 ((bs.getD 4 0 : Nat) : Int) 128 == 0) = true := by rw [and128 HC.out]; exact decide_eq_true hc
          clear hc
          generalize bs.getD 4 0 = d at *
          go_wp2
          go_ret2
          exact ⟨ret_pair (HV.out.trans (congrArg (fun q : Nat × Nat => (q.1 : Int)) HE.out).symm) (congrArg (fun q : Nat × Nat => (q.2 : Int)) HE.out).symm, rfl⟩
        · have HV := Lib.hid (orv 4 a (bs.getD 4 0) 268435456 (by decide) (by omega) HA.out.1 HC.out)
          have HE := Lib.hid (HA.out.2.trans (numP_more HLX.out (by omega) hc))
          have hd : (bits .and .u8 ((bs.getD 4 0 : Nat) : Int) 128 == 0) = false := by rw [and128 HC.out]; exact decide_eq_false hc
          have HB : Hid (a + bs.getD 4 0 % 128 * 128 ^ 4 < 128 ^ (4 + 1)) := Lib.hid (by have := HA.out.1; have hm := Nat.mod_lt (bs.getD 4 0) (show 128 > 0 by omega); simp only [Nat.reducePow, Nat.reduceAdd] at this ⊢; omega)
          clear hc
          generalize bs.getD 4 0 = d at *
          go_wp2
          go_round
          case rel => exact ⟨4 + 1, _, by omega, by omega, by first | rfl | go_num, congrArg (Value.int .i64) HV.out, Lib.hid ⟨HB.out, HE.out⟩⟩
          case measure => simp only [intOf]; omega
      · have h1' : w.cell? ⟨ad.block, ad.off + 5, none⟩ = some (.int .u8 ((bs.getD 5 0 : Nat) : Int)) := by rw [← h1]; rfl
        have HE := Lib.hid (HA.out.2.trans numP_five)
        clear h1
        generalize bs.getD 5 0 = d at *
        go_wp2
        go_ret2
        exact ⟨ret_pair (congrArg (fun q : Nat × Nat => (q.1 : Int)) HE.out).symm (congrArg (fun q : Nat × Nat => (q.2 : Int)) HE.out).symm, rfl⟩
    · have HE := Lib.hid (HA.out.2.trans (numP_end (by rw [LX.out]; omega)))
      obtain rfl : k = n := by omega
      go_wp2
      go_ret2
      exact ⟨ret_pair (congrArg (fun q : Nat × Nat => (q.1 : Int)) HE.out).symm (congrArg (fun q : Nat × Nat => (q.2 : Int)) HE.out).symm, rfl⟩
end Go.Proofs.Ytokjeglhmmijfaa
