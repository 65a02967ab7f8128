/-
  Words and their bytes, plainly reckoned; conditions: numbers that fit a word.
-/
import Derived.Test.YtononinmjijhoaaPk4
import Derived.Test.YtononinmjijhoaaNkC
namespace Go.Proofs.Ytononinmjijhoaa
open Go.RowKit
set_option linter.all false
theorem zero_of_bytes : ∀ (t y : Nat), y < 256 ^ t → (∀ q, q < t → y / 256 ^ q % 256 = 0) → y = 0
  | 0, y, h, _ => by simpa using h
  | t + 1, y, h, hq => by
    have h0 : y % 256 = 0 := by simpa using hq 0 (by omega)
    have h1 : y / 256 < 256 ^ t := by rw [Nat.pow_succ] at h; exact Nat.div_lt_of_lt_mul (by omega)
    have h2 : y / 256 = 0 := zero_of_bytes t (y / 256) h1 (fun q hqt => by
      have := hq (q + 1) (by omega)
      rw [Nat.pow_succ, Nat.mul_comm, ← Nat.div_div_eq_div_mul] at this
      exact this)
    omega
/-- The words are numbers of 64 bits. -/
def W64 (xs : List Int) : Prop := ∀ i : Nat, 0 ≤ xs[i]?.getD 0 ∧ xs[i]?.getD 0 < 18446744073709551616
theorem W64.nat {xs : List Int} (h : W64 xs) (i : Nat) : ∃ x : Nat, xs[i]?.getD 0 = (x : Int) ∧ x < 256 ^ 8 := by
  have h1 := (h i).1
  have h2 := (h i).2
  have e : (256 : Nat) ^ 8 = 18446744073709551616 := by decide
  exact ⟨(xs[i]?.getD 0).toNat, (Int.toNat_of_nonneg h1).symm, by rw [e]; omega⟩
theorem nz_cast {a : Nat} (h : (a : Int) = 0) : a = 0 := Int.ofNat.inj h
theorem zf_rest (xs : List Int) (m : Nat) (h : W64 xs) (hm : m ≤ 8 * xs.length) : zfB xs m = restB xs m := by
  rw [Bool.eq_iff_iff]
  unfold zfB restB
  rw [List.all_eq_true, List.all_eq_true]
  constructor
  · intro hz i hi
    rw [List.mem_range] at hi
    by_cases him : i < m
    · simp [him]
    · have h1 := hz (i / 8) (List.mem_range.2 (by omega))
      obtain ⟨x, hx, hlt⟩ := h.nat (i / 8)
      have hnm : ¬ i / 8 < m / 8 := by omega
      simp only [hnm, decide_false, Bool.false_or, beq_iff_eq] at h1
      simp only [him, decide_false, Bool.false_or, beq_iff_eq]
      unfold byI
      unfold zw at h1
      rw [hx] at h1 ⊢
      have hx0 : x / 2 ^ (8 * (i % 8)) = 0 := by
        by_cases e : i / 8 = m / 8
        · rw [if_pos e] at h1
          have h1' : x / 2 ^ (8 * (m % 8)) = 0 := by exact_mod_cast h1
          rw [Nat.div_eq_zero_iff] at h1' ⊢
          right
          rcases h1' with h1' | h1'
          · exact absurd h1' (Nat.ne_of_gt (Nat.two_pow_pos _))
          · exact Nat.lt_of_lt_of_le h1' (Nat.pow_le_pow_right (by omega) (by omega))
        · rw [if_neg e] at h1
          have h1' : x = 0 := by exact_mod_cast h1
          rw [h1']; simp
      have : ((x : Int) / 2 ^ (8 * (i % 8))) = ((x / 2 ^ (8 * (i % 8)) : Nat) : Int) := by push_cast; rfl
      rw [this, hx0]; rfl
  · intro hz i hi
    rw [List.mem_range] at hi
    by_cases him : i < m / 8
    · simp [him]
    · obtain ⟨x, hx, hlt⟩ := h.nat i
      simp only [him, decide_false, Bool.false_or, beq_iff_eq]
      have hb : ∀ q, q < 8 → m ≤ 8 * i + q → x / 256 ^ q % 256 = 0 := by
        intro q hq hmq
        have h1 := hz (8 * i + q) (List.mem_range.2 (by omega))
        have hn : ¬ 8 * i + q < m := by omega
        simp only [hn, decide_false, Bool.false_or, beq_iff_eq] at h1
        unfold byI at h1
        rw [show (8 * i + q) / 8 = i from by omega, show (8 * i + q) % 8 = q from by omega, hx] at h1
        have h2 : ((x / 2 ^ (8 * q) % 256 : Nat) : Int) = 0 := by
          rw [Int.natCast_emod, Int.natCast_ediv, Int.natCast_pow]; exact h1
        rw [pow8] at h2
        exact nz_cast h2
      unfold zw
      rw [hx]
      by_cases e : i = m / 8
      · rw [if_pos e]
        have h0 : x / 256 ^ (m % 8) = 0 := by
          refine zero_of_bytes (8 - m % 8) _ ?_ (fun q hq => ?_)
          · apply Nat.div_lt_of_lt_mul
            rw [← Nat.pow_add, show m % 8 + (8 - m % 8) = 8 from by omega]; exact hlt
          · rw [Nat.div_div_eq_div_mul, ← Nat.pow_add]
            exact hb _ (by omega) (by omega)
        have : ((x : Int) / 2 ^ (8 * (m % 8))) = ((x / 2 ^ (8 * (m % 8)) : Nat) : Int) := by push_cast; rfl
        rw [this, pow8, h0]; rfl
      · rw [if_neg e]
        have h0 : x = 0 := zero_of_bytes 8 x hlt (fun q hq => hb q hq (by omega))
        rw [h0]; rfl
end Go.Proofs.Ytononinmjijhoaa
