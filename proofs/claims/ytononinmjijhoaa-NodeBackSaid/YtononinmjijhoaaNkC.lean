/-
  The words of a text, plainly reckoned: they tell the text; no condition.
-/
import Derived.Test.YtononinmjijhoaaNdm
import Derived.IntWalk
namespace Go.Proofs.Ytononinmjijhoaa
open Go.RowKit
set_option linter.all false
theorem pow8 (q : Nat) : (2 : Nat) ^ (8 * q) = 256 ^ q := by rw [Nat.pow_mul]
/-- Word j behind k bytes, as a number. -/
def val (s : ByteArray) (j : Nat) : Nat → Nat
  | 0 => 0
  | k + 1 => if h : k < s.size then (if k / 8 = j then val s j k + s[k].toNat * 256 ^ (k % 8) else val s j k) else val s j k
theorem byte_lt (c : UInt8) : c.toNat < 256 := c.toNat_lt
theorem val_lt (s : ByteArray) (j : Nat) : ∀ k, val s j k < 256 ^ (min 8 (k - 8 * j))
  | 0 => by simp [val]
  | k + 1 => by
    have ih := val_lt s j k
    unfold val
    split
    · rename_i hk
      split
      · rename_i hj
        have e1 : min 8 (k - 8 * j) = k % 8 := by omega
        have e2 : min 8 (k + 1 - 8 * j) = k % 8 + 1 := by omega
        rw [e1] at ih
        rw [e2, Nat.pow_succ]
        have hb := byte_lt s[k]
        calc val s j k + s[k].toNat * 256 ^ (k % 8) < 256 ^ (k % 8) + s[k].toNat * 256 ^ (k % 8) := Nat.add_lt_add_right ih _
          _ = (s[k].toNat + 1) * 256 ^ (k % 8) := by rw [Nat.add_mul, Nat.one_mul, Nat.add_comm]
          _ ≤ 256 * 256 ^ (k % 8) := Nat.mul_le_mul_right _ (by omega)
          _ = 256 ^ (k % 8) * 256 := Nat.mul_comm _ _
      · exact Nat.lt_of_lt_of_le ih (Nat.pow_le_pow_right (by omega) (by omega))
    · exact Nat.lt_of_lt_of_le ih (Nat.pow_le_pow_right (by omega) (by omega))
theorem val_byte (s : ByteArray) (j q : Nat) (hq : q < 8) : ∀ k, k ≤ s.size → val s j k / 256 ^ q % 256 = if h : 8 * j + q < k ∧ 8 * j + q < s.size then (s[8 * j + q]'h.2).toNat else 0
  | 0, _ => by simp [val]
  | k + 1, hk1 => by
    have ih := val_byte s j q hq k (by omega)
    have hl := val_lt s j k
    have hk : k < s.size := by omega
    unfold val
    rw [dif_pos hk]
    split
    · rename_i hj
      have e1 : min 8 (k - 8 * j) = k % 8 := by omega
      rw [e1] at hl
      have hb := byte_lt s[k]
      have hkj : k = 8 * j + k % 8 := by omega
      rcases Nat.lt_trichotomy q (k % 8) with hlt | heq | hgt
      · have e3 : s[k].toNat * 256 ^ (k % 8) = 256 ^ q * (256 * (s[k].toNat * 256 ^ (k % 8 - q - 1))) := by
          have : (256 : Nat) ^ (k % 8) = 256 ^ q * (256 * 256 ^ (k % 8 - q - 1)) := by
            rw [← Nat.pow_succ', ← Nat.pow_add]; congr 1; omega
          rw [this]
          simp only [Nat.mul_left_comm, Nat.mul_comm, Nat.mul_assoc]
        rw [e3, Nat.add_mul_div_left _ _ (Nat.pow_pos (by omega)), Nat.add_mul_mod_self_left, ih]
        by_cases hc : 8 * j + q < k ∧ 8 * j + q < s.size
        · rw [dif_pos hc, dif_pos ⟨by omega, hc.2⟩]
        · exact absurd ⟨by omega, by omega⟩ hc
      · have e4 : 8 * j + q = k := by omega
        rw [heq, Nat.add_mul_div_right _ _ (Nat.pow_pos (by omega)), Nat.div_eq_of_lt hl, Nat.zero_add, Nat.mod_eq_of_lt hb]
        rw [dif_pos ⟨by omega, by omega⟩]
        congr 2
      · have hlt' : val s j k + s[k].toNat * 256 ^ (k % 8) < 256 ^ q := by
          have h2 := val_lt s j (k + 1)
          unfold val at h2
          rw [dif_pos hk, if_pos hj] at h2
          exact Nat.lt_of_lt_of_le h2 (Nat.pow_le_pow_right (by omega) (by omega))
        rw [Nat.div_eq_of_lt hlt', dif_neg (by omega)]
    · rename_i hj
      rw [ih]
      by_cases hc : 8 * j + q < k ∧ 8 * j + q < s.size
      · rw [dif_pos hc, dif_pos ⟨by omega, hc.2⟩]
      · rw [dif_neg hc, dif_neg (by omega)]
theorem orW_nat (x r : Nat) (c : UInt8) (hx : x < 256 ^ r) (hr : r < 8) : orW (x : Int) c r = ((x + c.toNat * 256 ^ r : Nat) : Int) := by
  have hb := byte_lt c
  have h8 : (256 : Nat) ^ 8 = 18446744073709551616 := by decide
  have hle : (256 : Nat) ^ (r + 1) ≤ 256 ^ 8 := Nat.pow_le_pow_right (by omega) (by omega)
  have hc : c.toNat * 256 ^ r < 256 ^ 8 := Nat.lt_of_lt_of_le (by rw [Nat.pow_succ, Nat.mul_comm]; exact Nat.mul_lt_mul_of_pos_left hb (Nat.pow_pos (by omega))) hle
  have hx8 : x < 256 ^ 8 := Nat.lt_of_lt_of_le hx (Nat.pow_le_pow_right (by omega) (by omega))
  have e1 : IntKind.u64.wrap (c.toNat : Int) = c.toNat := IntWalk.u64_in _ (by omega)
  have e2 : ((c.toNat : Int) * 2 ^ (8 * r)) = ((c.toNat * 256 ^ r : Nat) : Int) := by
    rw [← pow8, Int.natCast_mul, Int.natCast_pow]; rfl
  have e3 : IntKind.u64.wrap ((c.toNat * 256 ^ r : Nat) : Int) = ((c.toNat * 256 ^ r : Nat) : Int) := IntWalk.u64_in _ (by omega)
  have e4 : x ||| c.toNat * 256 ^ r = x + c.toNat * 256 ^ r := by
    have := Nat.two_pow_add_eq_or_of_lt (i := 8 * r) (b := x) (by rw [pow8]; exact hx) c.toNat
    rw [pow8, Nat.mul_comm] at this
    rw [Nat.or_comm, ← this, Nat.add_comm]
  unfold orW
  rw [e1, e2, e3]
  have o1 : BitVec.ofInt 64 ((x : Nat) : Int) = BitVec.ofNat 64 x := BitVec.ofInt_natCast 64 x
  have o2 : BitVec.ofInt 64 ((c.toNat * 256 ^ r : Nat) : Int) = BitVec.ofNat 64 (c.toNat * 256 ^ r) := BitVec.ofInt_natCast 64 _
  show IntKind.u64.wrap ((BitVec.ofInt 64 ((x : Nat) : Int) ||| BitVec.ofInt 64 ((c.toNat * 256 ^ r : Nat) : Int)).toNat : Int) = _
  rw [o1, o2, BitVec.toNat_or, BitVec.toNat_ofNat, BitVec.toNat_ofNat, Nat.mod_eq_of_lt (by omega), Nat.mod_eq_of_lt (by omega), e4]
  have hs : x + c.toNat * 256 ^ r < 256 ^ (r + 1) := by
    rw [Nat.pow_succ]
    calc x + c.toNat * 256 ^ r < 256 ^ r + c.toNat * 256 ^ r := Nat.add_lt_add_right hx _
      _ = (c.toNat + 1) * 256 ^ r := by rw [Nat.add_mul, Nat.one_mul, Nat.add_comm]
      _ ≤ 256 * 256 ^ r := Nat.mul_le_mul_right _ (by omega)
      _ = 256 ^ r * 256 := Nat.mul_comm _ _
  exact IntWalk.u64_in _ (by omega)
theorem wd_val (s : ByteArray) (c : Nat) : ∀ k, k ≤ s.size → s.size ≤ 8 * c → ∀ j, j < c → (wd s c k)[j]? = some ((val s j k : Nat) : Int)
  | 0, _, _, j, hj => by simp [wd, val, hj]
  | k + 1, hk1, hc, j, hj => by
    have ih := wd_val s c k (by omega) hc
    have hk : k < s.size := by omega
    rw [wd_succ s c k hk, List.getElem?_set]
    unfold val
    rw [dif_pos hk]
    by_cases e : k / 8 = j
    · have hl := val_lt s j k
      rw [show min 8 (k - 8 * j) = k % 8 from by omega] at hl
      rw [if_pos e, if_pos (by rw [wd_len]; omega), if_pos e, e, ih j hj]
      rw [show (some ((val s j k : Nat) : Int)).getD 0 = ((val s j k : Nat) : Int) from rfl, orW_nat _ _ _ hl (by omega)]
    · rw [if_neg e, if_neg e]; exact ih j hj
theorem cnt_ge (n : Nat) : n ≤ 8 * cnt n := by unfold cnt; omega
theorem ws_at (s : ByteArray) (j : Nat) (hj : j < cnt s.size) : (ws s)[j]? = some ((val s j s.size : Nat) : Int) := wd_val s (cnt s.size) s.size (Nat.le_refl _) (cnt_ge _) j hj
theorem byte_val (s : ByteArray) (i : Nat) (h : i < s.size) : (s[i]'h).toNat = val s (i / 8) s.size / 256 ^ (i % 8) % 256 := by
  have e : 8 * (i / 8) + i % 8 = i := by omega
  rw [val_byte s (i / 8) (i % 8) (by omega) s.size (Nat.le_refl _), dif_pos ⟨by omega, by omega⟩]
  congr 2
  exact e.symm
theorem ws_inj {a b : ByteArray} (h : a.size = b.size) (hw : ws a = ws b) : a = b := by
  refine ByteArray.ext_getElem h (fun i h1 h2 => ?_)
  apply UInt8.toNat_inj.1
  rw [byte_val a i h1, byte_val b i h2]
  have c1 : i / 8 < cnt a.size := by unfold cnt; omega
  have c2 : i / 8 < cnt b.size := by unfold cnt; omega
  have q1 := ws_at a (i / 8) c1
  have q2 := ws_at b (i / 8) c2
  rw [hw, q2] at q1
  have q3 : ((val b (i / 8) b.size : Nat) : Int) = ((val a (i / 8) a.size : Nat) : Int) := Option.some.inj q1
  rw [Int.ofNat.inj q3]
end Go.Proofs.Ytononinmjijhoaa
