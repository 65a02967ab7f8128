/-
  The words of two texts are the same just if the texts are; a longer text's words begin as the shorter one's; condition: sizes.
-/
import Derived.Test.YtdkokpaboipamaaPkP
namespace Go.Proofs.Ytdkokpaboipamaa
open Go.RowKit
set_option linter.all false
theorem eq_of_bytes : ∀ (t x y : Nat), x < 256 ^ t → y < 256 ^ t → (∀ q, q < t → x / 256 ^ q % 256 = y / 256 ^ q % 256) → x = y
  | 0, x, y, hx, hy, _ => by simp at hx hy; omega
  | t + 1, x, y, hx, hy, h => by
    have h0 := h 0 (by omega)
    rw [Nat.pow_zero, Nat.div_one, Nat.div_one] at h0
    have ih := eq_of_bytes t (x / 256) (y / 256) (Nat.div_lt_of_lt_mul (by rw [Nat.pow_succ, Nat.mul_comm] at hx; exact hx)) (Nat.div_lt_of_lt_mul (by rw [Nat.pow_succ, Nat.mul_comm] at hy; exact hy)) (fun q hq => by
      have := h (q + 1) (by omega)
      rw [Nat.pow_succ', ← Nat.div_div_eq_div_mul, ← Nat.div_div_eq_div_mul] at this
      exact this)
    omega
theorem ws_inj {a b : ByteArray} (h : a.size = b.size) (hw : ws a = ws b) : a = b := by
  have h1 := ws_str a a.size (Nat.le_refl _)
  have h2 := ws_str b b.size (Nat.le_refl _)
  rw [ext_all] at h1 h2
  rw [← h1, ← h2, hw, h]
theorem ws_at (s : ByteArray) (j : Nat) (hj : j < cnt s.size) : (ws s)[j]? = some ((val s j s.size : Nat) : Int) := wd_val s (cnt s.size) s.size (Nat.le_refl _) (cnt_ge _) j hj
theorem ws_take {a z : ByteArray} {k : Nat} (ha : 8 * k ≤ a.size) (hz : 8 * k ≤ z.size) (h : ∀ i (h1 : i < a.size) (h2 : i < z.size), i < 8 * k → z[i] = a[i]) : (ws z).take k = (ws a).take k := by
  apply List.ext_getElem?
  intro j
  rw [List.getElem?_take, List.getElem?_take]
  by_cases hj : j < k
  · have c1 : j < cnt a.size := by unfold cnt; omega
    have c2 : j < cnt z.size := by unfold cnt; omega
    rw [if_pos hj, if_pos hj, ws_at a j c1, ws_at z j c2]
    have l8 : ∀ s : ByteArray, val s j s.size < 256 ^ 8 := fun s => Nat.lt_of_lt_of_le (val_lt s j s.size) (Nat.pow_le_pow_right (by omega) (by omega))
    have : val z j z.size = val a j a.size := eq_of_bytes 8 _ _ (l8 z) (l8 a) (fun q hq => by
      rw [val_byte z j q hq z.size (Nat.le_refl _), val_byte a j q hq a.size (Nat.le_refl _), dif_pos ⟨by omega, by omega⟩, dif_pos ⟨by omega, by omega⟩, h (8 * j + q) (by omega) (by omega) (by omega)])
    rw [this]
  · rw [if_neg hj, if_neg hj]
theorem head_get {s : ByteArray} {n i : Nat} (h : i < (s.extract 0 n).size) (h2 : i < s.size) : (s.extract 0 n)[i] = s[i] := by
  have := ByteArray.getElem_extract (h := h)
  simpa using this
theorem app_get {a b : ByteArray} {i : Nat} (h : i < (a ++ b).size) (h2 : i < a.size) : (a ++ b)[i] = a[i] := ByteArray.getElem_append_left h2
end Go.Proofs.Ytdkokpaboipamaa
