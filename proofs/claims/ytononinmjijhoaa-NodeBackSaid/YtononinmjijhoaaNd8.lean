/-
  slices.BinarySearch at rising bytes; conditions: lengths.
-/
import Derived.Test.YtononinmjijhoaaNd7
namespace Go.Proofs.Ytononinmjijhoaa
open Go.RowKit Go.WideShapes Go.ChangeShapes
set_option linter.all false
/-- How many are ahead of the first that isn't less. -/
def lowN (b : Int) : List Int → Nat
  | [] => 0
  | x :: l => if x < b then lowN b l + 1 else 0
def isN (b : Int) (xs : List Int) : Bool := decide (lowN b xs < xs.length ∧ xs.getD (lowN b xs) 0 = b)
theorem low_is (b : Int) : ∀ (l : List Int) (k : Nat), k ≤ l.length → (∀ i, i < k → l.getD i 0 < b) → (k < l.length → ¬ l.getD k 0 < b) → lowN b l = k
  | [], k, hk, _, _ => by simp at hk; subst hk; rfl
  | e :: l, 0, _, _, h => by
    have := h (by simp)
    simp only [List.getD_cons_zero] at this
    unfold lowN
    rw [if_neg this]
  | e :: l, k + 1, hk, h, g => by
    have h0 := h 0 (by omega)
    simp only [List.getD_cons_zero] at h0
    unfold lowN
    rw [if_pos h0, low_is b l k (by simpa using hk) (fun i hi => by simpa using h (i + 1) (by omega)) (fun q => by simpa using g (by simpa using q))]
theorem low_le (b : Int) : ∀ l : List Int, lowN b l ≤ l.length
  | [] => Nat.le_refl _
  | x :: l => by
    unfold lowN
    split
    · simpa using low_le b l
    · simp
theorem asc_lt {xs : List Int} (h : Asc xs) : ∀ d i, i + d + 1 < xs.length → xs.getD i 0 < xs.getD (i + d + 1) 0
  | 0, i, hl => h i hl
  | d + 1, i, hl => by
    have h1 := asc_lt h d i (by omega)
    have h2 := h (i + d + 1) (by omega)
    have e : i + d + 1 + 1 = i + (d + 1) + 1 := by omega
    rw [e] at h2
    omega
theorem asc_le {xs : List Int} (h : Asc xs) {i j : Nat} (hij : i ≤ j) (hj : j < xs.length) : xs.getD i 0 ≤ xs.getD j 0 := by
  rcases Nat.lt_or_ge i j with q | q
  · have := asc_lt h (j - i - 1) i (by omega)
    have e : i + (j - i - 1) + 1 = j := by omega
    rw [e] at this; omega
  · obtain rfl : i = j := by omega
    exact Int.le_refl _
set_option maxRecDepth 100000 in
set_option maxHeartbeats 1600000 in
theorem bs_any (A : Option Addr) (n c : Nat) (xs : List Int) (b : Int) (w : World) (hx : Reads w w.heap.size 1 A n (xs.map (Value.int .u8))) (hn : n ≤ 300) (hs : Asc xs) :
    Calls Try.prog 30 #[.slice A n c, .int .u8 b] w fun e w' => e = .returned (.tuple #[.int .i64 (lowN b xs), .bool (isN b xs)]) ∧ w' = w := by
  have LX : Hid (xs.length = n) := Lib.hid (klen hx)
  have HS := Lib.hid hs
  clear hs
  go_enter Try.func30, Try.ntmps30
  go_wp2
  go_loopw [7, 8, 9] (fun i j _ wr => wr = w ∧ ∃ k m : Nat, k ≤ m ∧ m ≤ n ∧ i = .int .i64 k ∧ j = .int .i64 m ∧ Hid (∀ i, i < k → xs.getD i 0 < b) ∧ Hid (∀ i, m ≤ i → i < n → ¬ xs.getD i 0 < b)) (fun i j _ _ => (intOf j).toNat - (intOf i).toNat)
  case atStart => exact ⟨rfl, 0, n, Nat.zero_le _, Nat.le_refl _, rfl, rfl, Lib.hid (fun i hi => absurd hi (by omega)), Lib.hid (fun i hi h2 => absurd h2 (by omega))⟩
  case round =>
    obtain ⟨rfl, k, m, hkm, hm, rfl, rfl, HT, HU⟩ := hrel
    by_cases hlt : k < m
    · obtain ⟨hN, hhN⟩ : ∃ hN, hN = (k + m) / 2 := ⟨_, rfl⟩
      have hr : ((k : Int) + (m : Int)) / 2 = (hN : Int) := by omega
      have hr1 : hN < n := by omega
      have hr2 : (hN : Int) < (n : Int) := by omega
      have hr3 : (0 : Int) ≤ (hN : Int) := by omega
      obtain ⟨ad, rfl, hb, g0⟩ := kget hx hr1
      obtain ⟨x, hxx⟩ : ∃ x, x = xs.getD hN 0 := ⟨_, rfl⟩
      rw [← hxx] at g0
      have HXX := Lib.hid hxx
      have HHN := Lib.hid hhN
      clear hxx hhN hx
      have hsI : IntKind.i64.wrap ((hN : Int) + 1) = (hN : Int) + 1 := by rw [IntWalk.i64_in _ (by omega)]
      by_cases hlx : x < b
      · have HN : Hid (∀ i, i < hN + 1 → xs.getD i 0 < b) := Lib.hid (fun i hi => Int.lt_of_le_of_lt (asc_le (i := i) (j := hN) HS.out (by omega) (by rw [LX.out]; exact hr1)) (by rw [← HXX.out]; exact hlx))
        go_wp2
        go_roundw
        case rel => exact ⟨trivial, hN + 1, m, by have := HHN.out; omega, hm, by go_num, rfl, HN, HU⟩
        case measure => simp only [intOf]; have := HHN.out; omega
      · have HN : Hid (∀ i, hN ≤ i → i < n → ¬ xs.getD i 0 < b) := Lib.hid (fun i hi h2 => by
          have := asc_le HS.out hi (by rw [LX.out]; exact h2)
          rw [← HXX.out] at this; omega)
        go_wp2
        go_roundw
        case rel => exact ⟨trivial, k, hN, by have := HHN.out; omega, by omega, rfl, by go_num, HT, HN⟩
        case measure => simp only [intOf]; have := HHN.out; omega
    · obtain rfl : k = m := by omega
      have HL : Hid (lowN b xs = k) := Lib.hid (low_is b xs k (by rw [LX.out]; exact hm) HT.out (fun q => HU.out k (Nat.le_refl _) (by rw [← LX.out]; exact q)))
      by_cases hkn : k < n
      · obtain ⟨ad, rfl, hb, g0⟩ := kget hx hkn
        obtain ⟨x, hxx⟩ : ∃ x, x = xs.getD k 0 := ⟨_, rfl⟩
        rw [← hxx] at g0
        have HXX := Lib.hid hxx
        clear hxx hx
        by_cases hxb : x = b
        · have HT2 : Hid (isN b xs = true) := Lib.hid (by unfold isN; rw [HL.out, LX.out]; exact decide_eq_true ⟨hkn, by rw [← HXX.out]; exact hxb⟩)
          have hq : (x == b) = true := by simpa using hxb
          clear hxb
          go_wp2
          go_ret2
          exact ⟨by rw [HL.out, HT2.out]; rfl, rfl⟩
        · have HT2 : Hid (isN b xs = false) := Lib.hid (by unfold isN; rw [HL.out, LX.out]; exact decide_eq_false (fun q => hxb (by rw [HXX.out]; exact q.2)))
          have hq : (x == b) = false := by simpa using hxb
          clear hxb
          go_wp2
          go_ret2
          exact ⟨by rw [HL.out, HT2.out]; rfl, rfl⟩
      · have HT2 : Hid (isN b xs = false) := Lib.hid (by unfold isN; rw [HL.out, LX.out]; exact decide_eq_false (fun q => hkn q.1))
        go_wp2
        go_ret2
        exact ⟨by rw [HL.out, HT2.out]; rfl, rfl⟩
end Go.Proofs.Ytononinmjijhoaa
