/-
  What the document's DecodeLeaf asks of a leaf's second word and of its last three; condition: words.
-/
import Derived.Test.YtkobgejeapcfkaaNkL
namespace Go.Proofs.Ytkobgejeapcfkaa
open Go.RowKit
set_option linter.all false
theorem or_nat {a b : Nat} (ha : a < 256 ^ 8) (hb : b < 256 ^ 8) : bits .or .u64 (a : Int) (b : Int) = ((a ||| b : Nat) : Int) ∧ a ||| b < 256 ^ 8 := by
  have e8 : (256 : Nat) ^ 8 = 2 ^ 64 := by decide
  have o1 : BitVec.ofInt 64 ((a : Nat) : Int) = BitVec.ofNat 64 a := BitVec.ofInt_natCast 64 a
  have o2 : BitVec.ofInt 64 ((b : Nat) : Int) = BitVec.ofNat 64 b := BitVec.ofInt_natCast 64 b
  have hlt : a ||| b < 2 ^ 64 := Nat.or_lt_two_pow (by omega) (by omega)
  refine ⟨?_, by omega⟩
  show IntKind.u64.wrap ((BitVec.ofInt 64 ((a : Nat) : Int) ||| BitVec.ofInt 64 ((b : Nat) : Int)).toNat : Int) = _
  rw [o1, o2, BitVec.toNat_or, BitVec.toNat_ofNat, BitVec.toNat_ofNat, Nat.mod_eq_of_lt (by omega), Nat.mod_eq_of_lt (by omega)]
  exact IntWalk.u64_in _ (by omega)
theorem or3_zero {a b c : Nat} (ha : a < 256 ^ 8) (hb : b < 256 ^ 8) (hc : c < 256 ^ 8) : bits .or .u64 (bits .or .u64 (a : Int) (b : Int)) (c : Int) = 0 ↔ a = 0 ∧ b = 0 ∧ c = 0 := by
  obtain ⟨h1, h2⟩ := or_nat ha hb
  rw [h1, (or_nat h2 hc).1]
  constructor
  · intro h
    have h' : (a ||| b) ||| c = 0 := Int.ofNat.inj h
    have h3 := Nat.or_eq_zero_iff.1 h'
    have h4 := Nat.or_eq_zero_iff.1 h3.1
    exact ⟨h4.1, h4.2, h3.2⟩
  · rintro ⟨rfl, rfl, rfl⟩; rfl
theorem andNot_zero {x : Nat} (hx : x < 256 ^ 8) (h : bits .andNot .u64 (x : Int) 65280 = 0) : x % 256 = 0 ∧ x < 65536 := by
  have e8 : (256 : Nat) ^ 8 = 2 ^ 64 := by decide
  have o1 : BitVec.ofInt 64 ((x : Nat) : Int) = BitVec.ofNat 64 x := BitVec.ofInt_natCast 64 x
  have o2 : (~~~ BitVec.ofInt 64 (65280 : Int)) = BitVec.ofNat 64 18446744073709486335 := by decide
  have h1 : IntKind.u64.wrap ((BitVec.ofInt 64 ((x : Nat) : Int) &&& ~~~ BitVec.ofInt 64 (65280 : Int)).toNat : Int) = 0 := h
  rw [o1, o2, BitVec.toNat_and, BitVec.toNat_ofNat, BitVec.toNat_ofNat, Nat.mod_eq_of_lt (by omega), Nat.mod_eq_of_lt (by decide)] at h1
  have hle : x &&& 18446744073709486335 ≤ x := Nat.and_le_left
  rw [IntWalk.u64_in _ (by omega)] at h1
  have h2 : x &&& 18446744073709486335 = 0 := Int.ofNat.inj h1
  constructor
  · have h3 := Nat.and_mod_two_pow (a := x) (b := 18446744073709486335) (n := 8)
    rw [h2] at h3
    have e : (x % 2 ^ 8) &&& (18446744073709486335 % 2 ^ 8) = (x % 2 ^ 8) % 2 ^ 8 := Nat.and_two_pow_sub_one_eq_mod (x % 2 ^ 8) 8
    rw [e] at h3
    omega
  · have h3 := Nat.and_div_two_pow (a := x) (b := 18446744073709486335) (n := 16)
    rw [h2] at h3
    have e : (x / 2 ^ 16) &&& (18446744073709486335 / 2 ^ 16) = (x / 2 ^ 16) % 2 ^ 48 := Nat.and_two_pow_sub_one_eq_mod (x / 2 ^ 16) 48
    rw [e] at h3
    omega
theorem andNot_leaf : ((List.range 14).all fun n => bits .andNot .u64 (256 * (n : Int)) 65280 == 0) = true := by kernel_rfl
end Go.Proofs.Ytkobgejeapcfkaa
