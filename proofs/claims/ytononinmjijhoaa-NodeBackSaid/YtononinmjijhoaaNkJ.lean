/-
  Words told by their bytes, and back: two words whose bytes end are the words of the text of these bytes; condition: sizes.
-/
import Derived.Test.YtononinmjijhoaaPkM

namespace Go.Proofs.Ytononinmjijhoaa
open Go.RowKit
set_option linter.all false
theorem wd_64 (s : ByteArray) (c : Nat) (hc : s.size ≤ 8 * c) : W64 (wd s c s.size) := by
  intro i
  by_cases hi : i < c
  · rw [wd_val s c s.size (Nat.le_refl _) hc i hi]
    have h1 := val_lt s i s.size
    have h2 : (256 : Nat) ^ (min 8 (s.size - 8 * i)) ≤ 256 ^ 8 := Nat.pow_le_pow_right (by omega) (by omega)
    have h8 : (256 : Nat) ^ 8 = 18446744073709551616 := by decide
    show (0 : Int) ≤ (val s i s.size : Nat) ∧ ((val s i s.size : Nat) : Int) < 18446744073709551616
    omega
  · rw [List.getElem?_eq_none (by rw [wd_len]; omega)]
    simp
/-- Byte i of a text's words. -/
theorem wd_byte (s : ByteArray) (c : Nat) (hc : s.size ≤ 8 * c) (i : Nat) (hi : i < 8 * c) : byI (wd s c s.size) i = if h : i < s.size then ((s[i]'h).toNat : Int) else 0 := by
  unfold byI
  rw [wd_val s c s.size (Nat.le_refl _) hc (i / 8) (by omega)]
  have hv := val_byte s (i / 8) (i % 8) (by omega) s.size (Nat.le_refl _)
  have e : 8 * (i / 8) + i % 8 = i := by omega
  show ((val s (i / 8) s.size : Nat) : Int) / 2 ^ (8 * (i % 8)) % 256 = _
  have e2 : ((val s (i / 8) s.size : Nat) : Int) / 2 ^ (8 * (i % 8)) % 256 = ((val s (i / 8) s.size / 256 ^ (i % 8) % 256 : Nat) : Int) := by
    rw [Int.natCast_emod, Int.natCast_ediv, ← pow8, Int.natCast_pow]; rfl
  rw [e2, hv]
  by_cases h : i < s.size
  · rw [dif_pos h, dif_pos (by omega)]
    congr 3
  · rw [dif_neg h, dif_neg (by omega)]; rfl
/-- The first k bytes of a text's words. -/
theorem wd_str (s : ByteArray) (c : Nat) (hc : s.size ≤ 8 * c) (k : Nat) (hk : k ≤ s.size) : strOfNums (bt (wd s c s.size) k k) = s.extract 0 k := by
  apply ByteArray.ext
  apply Array.ext'
  rw [strOfNums_data]
  apply List.ext_getElem
  · simp [bt]; omega
  · intro i h1 h2
    have hi : i < k := by simpa [bt] using h1
    simp only [bt, List.getElem_map, List.getElem_range, if_pos hi]
    rw [wd_byte s c hc i (by omega), dif_pos (by omega)]
    simp
    rfl
theorem eq_of_bytes : ∀ (t x y : Nat), x < 256 ^ t → y < 256 ^ t → (∀ q, q < t → x / 256 ^ q % 256 = y / 256 ^ q % 256) → x = y
  | 0, x, y, hx, hy, _ => by simp at hx hy; omega
  | t + 1, x, y, hx, hy, h => by
    have h0 := h 0 (by omega)
    rw [Nat.pow_zero, Nat.div_one, Nat.div_one] at h0
    have ih := eq_of_bytes t (x / 256) (y / 256) (Nat.div_lt_of_lt_mul (by rw [Nat.pow_succ, Nat.mul_comm] at hx; exact hx)) (Nat.div_lt_of_lt_mul (by rw [Nat.pow_succ, Nat.mul_comm] at hy; exact hy)) (fun q hq => by
      have := h (q + 1) (by omega)
      rw [Nat.pow_succ', ← Nat.div_div_eq_div_mul, ← Nat.div_div_eq_div_mul] at this
      exact this)
    omega
/-- The two words of a text of at most sixteen bytes. -/
theorem pad2_wd (k : ByteArray) (h : k.size ≤ 16) : (ws k ++ [0, 0]).take 2 = wd k 2 k.size := by
  apply List.ext_getElem?
  intro j
  by_cases hj : j < 2
  · rw [wd_val k 2 k.size (Nat.le_refl _) (by omega) j hj, List.getElem?_take, if_pos hj]
    by_cases hc : j < cnt k.size
    · rw [List.getElem?_append_left (by rw [ws_len]; exact hc), ws_at k j hc]
    · have h0 : val k j k.size = 0 := by
        have h1 := val_lt k j k.size
        have h2 : min 8 (k.size - 8 * j) = 0 := by unfold cnt at hc; omega
        rw [h2] at h1
        simpa using h1
      rw [List.getElem?_append_right (by rw [ws_len]; omega), ws_len, h0]
      have : j - cnt k.size < 2 := by omega
      match hq : j - cnt k.size, this with
      | 0, _ => rfl
      | 1, _ => rfl
  · rw [List.getElem?_eq_none (by simp; omega), List.getElem?_eq_none (by rw [wd_len]; omega)]
theorem sn_get (xs : List Int) (i : Nat) (h : i < (strOfNums xs).size) : (strOfNums xs)[i] = UInt8.ofNat (xs.getD i 0).toNat := by
  have hl : i < xs.length := by rw [strOfNums_size] at h; exact h
  have e : (strOfNums xs)[i] = (strOfNums xs).data.toList[i]'(by have := strOfNums_data xs; rw [this]; simpa using hl) := rfl
  rw [e]
  simp only [strOfNums_data, List.getElem_map]
  rw [List.getD_eq_getElem?_getD, List.getElem?_eq_getElem hl]; rfl
theorem byI_nat {ys : List Int} {j q x : Nat} (hx : ys[j]?.getD 0 = (x : Int)) (hq : q < 8) : byI ys (8 * j + q) = ((x / 256 ^ q % 256 : Nat) : Int) := by
  unfold byI
  have e1 : (8 * j + q) / 8 = j := by omega
  have e2 : (8 * j + q) % 8 = q := by omega
  rw [e1, e2, hx, Int.natCast_emod, Int.natCast_ediv, ← pow8, Int.natCast_pow]; rfl
/-- Words whose bytes from n on are nought are the words of the text of their first n bytes. -/
theorem inv_words {ys : List Int} {n : Nat} (hl : ys.length = 2) (h64 : W64 ys) (hn : n ≤ 16) (hr : restB ys n = true) :
    (strOfNums (bt ys n n)).size = n ∧ wd (strOfNums (bt ys n n)) 2 n = ys := by
  have hs : (strOfNums (bt ys n n)).size = n := by rw [strOfNums_size, bt_len]
  refine ⟨hs, ?_⟩
  apply List.ext_getElem?
  intro j
  by_cases hj : j < 2
  · have h1 := wd_val (strOfNums (bt ys n n)) 2 n (by rw [hs]; exact Nat.le_refl _) (by rw [hs]; omega) j hj
    rw [h1]
    obtain ⟨x, hx, hlt⟩ := h64.nat j
    have hy : ys[j]? = some (x : Int) := by
      rw [List.getElem?_eq_getElem (by omega)] at hx ⊢
      exact congrArg some hx
    rw [hy]
    have hv : val (strOfNums (bt ys n n)) j n = x := by
      refine eq_of_bytes 8 _ _ (Nat.lt_of_lt_of_le (val_lt _ j n) (Nat.pow_le_pow_right (by omega) (by omega))) hlt (fun q hq => ?_)
      have hb := byI_nat hx hq
      rw [val_byte _ j q hq n (by rw [hs]; exact Nat.le_refl _)]
      by_cases hin : 8 * j + q < n
      · rw [dif_pos ⟨hin, by rw [hs]; exact hin⟩, sn_get]
        have e : (bt ys n n).getD (8 * j + q) 0 = byI ys (8 * j + q) := by
          rw [List.getD_eq_getElem?_getD, List.getElem?_eq_getElem (by rw [bt_len]; exact hin)]
          simp [bt, hin]
        rw [e, hb, Int.toNat_natCast]
        simp
      · rw [dif_neg (by omega)]
        unfold restB at hr
        rw [List.all_eq_true] at hr
        have h2 := hr (8 * j + q) (List.mem_range.2 (by rw [hl]; omega))
        rw [Bool.or_eq_true, decide_eq_true_eq, beq_iff_eq] at h2
        rcases h2 with h2 | h2
        · exact absurd h2 hin
        · rw [hb] at h2
          exact (Int.ofNat.inj h2).symm
    rw [hv]
  · rw [List.getElem?_eq_none (by rw [wd_len]; omega), List.getElem?_eq_none (by omega)]
/-- The words of a text: from its last byte on there is nothing. -/
theorem wd_rest (k : ByteArray) (h : k.size ≤ 16) : restB (wd k 2 k.size) k.size = true := by
  refine restB_true (fun i h1 h2 => ?_)
  rw [wd_len] at h2
  rw [wd_byte k 2 (by omega) i (by omega), dif_neg (by omega)]
end Go.Proofs.Ytononinmjijhoaa
