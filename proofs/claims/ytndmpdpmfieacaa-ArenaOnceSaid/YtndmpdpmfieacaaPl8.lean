/-
  heap.down over the pool's numbers, told by what it makes of the list.
-/
import Derived.Test.YtndmpdpmfieacaaPl7
namespace Go.Proofs.Ytndmpdpmfieacaa
open Go.RowKit Go.WideShapes Go.ChangeShapes
set_option linter.all false
/-- The smaller child of i among the first n. -/
def kid (xs : List Int) (i n : Nat) : Nat := if 2 * i + 2 < n ∧ xs.getD (2 * i + 2) 0 < xs.getD (2 * i + 1) 0 then 2 * i + 2 else 2 * i + 1
theorem kid_gt (xs : List Int) (i n : Nat) : i < kid xs i n := by unfold kid; split <;> omega
theorem kid_lt (xs : List Int) (i n : Nat) (h : 2 * i + 1 < n) : kid xs i n < n := by unfold kid; split <;> omega
/-- What down makes of a row. -/
def downF (xs : List Int) (i n : Nat) : List Int :=
  if h : 2 * i + 1 < n then
    if xs.getD (kid xs i n) 0 < xs.getD i 0 then downF (swp xs i (kid xs i n)) (kid xs i n) n else xs
  else xs
termination_by n - i
decreasing_by have := kid_gt xs i n; omega
theorem downF_end (xs : List Int) (i n : Nat) (h : ¬ 2 * i + 1 < n) : downF xs i n = xs := by rw [downF]; rw [dif_neg h]
theorem downF_stop (xs : List Int) (i n : Nat) (h : 2 * i + 1 < n) (h2 : ¬ xs.getD (kid xs i n) 0 < xs.getD i 0) : downF xs i n = xs := by rw [downF]; rw [dif_pos h, if_neg h2]
theorem downF_go (xs : List Int) (i n : Nat) (h : 2 * i + 1 < n) (h2 : xs.getD (kid xs i n) 0 < xs.getD i 0) : downF xs i n = downF (swp xs i (kid xs i n)) (kid xs i n) n := by rw [downF]; rw [dif_pos h, if_pos h2]
theorem less_i (g n c : Nat) (xs : List Int) {a b : Int} (i j : Nat) (w : World) (ha : a = i) (hb : b = j) (hn : xs.length = n) (hi : i < n) (hj : j < n) (h : Row g xs w) (v : Bool) (hv : decide (xs.getD i 0 < xs.getD j 0) = v) :
    Calls Try.prog 126 #[.slice (some ⟨g, 0, none⟩) n c, .int .i64 a, .int .i64 b] w fun e w' => e = .returned (.bool v) ∧ w' = w.drew := by
  subst ha hb hv; exact less_any g n c xs i j w hn hi hj h
theorem swap_i (g n c : Nat) (xs : List Int) {a b : Int} (i j : Nat) (w : World) (ha : a = i) (hb : b = j) (hn : xs.length = n) (hi : i < n) (hj : j < n) (h : Row g xs w) :
    Calls Try.prog 127 #[.slice (some ⟨g, 0, none⟩) n c, .int .i64 a, .int .i64 b] w fun e w' => e = .returned (.tuple #[]) ∧ Row g (swp xs i j) w' ∧ OnlyR g w w' := by
  subst ha hb
  refine (swap_any g n c xs i j w hn hi hj h).mono ?_
  rintro e w' ⟨rfl, rfl⟩
  exact ⟨rfl, h.swapped i j (by omega) (by omega), ((OnlyR.refl g w).drew.setCell _ _).setCell _ _⟩
theorem OnlyR.trans {g : Nat} {a b c : World} (h : OnlyR g a b) (k : OnlyR g b c) : OnlyR g a c :=
  ⟨k.os.trans h.os, k.tape.trans h.tape, k.output.trans h.output, k.size.trans h.size, fun i hi => (k.block i hi).trans (h.block i hi), fun B n c xs o => by
    obtain ⟨ys, hy⟩ := h.own B n c xs o
    exact k.own B n c ys hy⟩
set_option maxRecDepth 100000 in
set_option maxHeartbeats 4000000 in
theorem down_any (P g n c m : Nat) (xs : List Int) (i0 : Nat) (w : World) (hm : m ≤ n) (hj : i0 ≤ m) (hn : xs.length = n) (hN : n < 1000000) (hPg : P ≠ g) (hP : w.cell? ⟨P, 0, none⟩ = some (.slice (some ⟨g, 0, none⟩) n c)) (h : Row g xs w) :
    Calls Try.prog 98 #[.iface 150 (.pointer (some ⟨P, 0, none⟩)), .int .i64 i0, .int .i64 m] w fun e w' => (∃ b, e = .returned (.bool b)) ∧ Row g (downF xs i0 m) w' ∧ OnlyR g w w' := by
  go_enter Try.func98, Try.ntmps98
  go_wp2
  go_loopw [7] (fun v wr => ∃ (j : Nat) (ys : List Int), v = .int .i64 j ∧ j ≤ m ∧ Hid (ys.length = n) ∧ Hid (downF ys j m = downF xs i0 m) ∧ Row g ys wr ∧ OnlyR g w wr) (fun v _ => m - (intOf v).toNat)
  case atStart => exact ⟨i0, xs, rfl, hj, hn, rfl, h, OnlyR.refl _ _⟩
  case round =>
    obtain ⟨j, ys, rfl, hjn, HL, HU, HR, HO⟩ := hrel
    have hc : wr.cell? ⟨P, 0, none⟩ = some (.slice (some ⟨g, 0, none⟩) n c) := (HO.cell hPg).trans hP
    by_cases h1 : 2 * j + 1 < m
    · have h1' : ¬ ((m : Int) ≤ 2 * (j : Int) + 1) := by omega
      have h1'' : ¬ (2 * (j : Int) + 1 < 0) := by omega
      have hm1 := m_less _ _ _ _ _ hc
      have hc2 : wr.drew.cell? ⟨P, 0, none⟩ = some (.slice (some ⟨g, 0, none⟩) n c) := hc
      have hc3 : wr.drew.drew.cell? ⟨P, 0, none⟩ = some (.slice (some ⟨g, 0, none⟩) n c) := hc
      have hm2 := m_less _ _ _ _ _ hc2
      have hm3 := m_swap _ _ _ _ _ hc2
      have hm4 := m_swap _ _ _ _ _ hc3
      have HK := kid_lt ys j m h1
      have HG := kid_gt ys j m
      have F1 : Hid True := trivial
      have KL : Hid (kid ys j m < m ∧ j < kid ys j m) := ⟨HK, HG⟩
      clear HK HG
      by_cases h2 : 2 * j + 2 < m
      · have h2' : 2 * (j : Int) + 1 + 1 < (m : Int) := by omega
        have h2'' : 2 * (j : Int) + 2 < (m : Int) := by omega
        by_cases h3 : ys.getD (2 * j + 2) 0 < ys.getD (2 * j + 1) 0
        · have hk : kid ys j m = 2 * j + 2 := by unfold kid; rw [if_pos ⟨h2, h3⟩]
          have hd3 : decide (ys.getD (2 * j + 2) 0 < ys.getD (2 * j + 1) 0) = true := decide_eq_true h3
          by_cases h4 : ys.getD (2 * j + 2) 0 < ys.getD j 0
          · skip
            have hd4 : decide (ys.getD (2 * j + 2) 0 < ys.getD j 0) = true := decide_eq_true h4
            have HH : Hid (downF (swp ys j (2 * j + 2)) (2 * j + 2) m = downF xs i0 m) := by have := HU.out; rw [downF_go _ _ _ h1 (by rw [hk]; exact h4), hk] at this; exact this
            clear h3 h4 hk
            go_wp2_with (first
              | (go_at_call 126; clear F1; refine (less_i g n c ys (2 * j + 2) (2 * j + 1) _ (by omega) (by omega) HL.out (by omega) (by omega) HR true hd3).mono ?_; rintro e w1 ⟨rfl, rfl⟩)
              | (go_at_call 126; refine (less_i g n c ys (2 * j + 2) j _ (by omega) (by omega) HL.out (by omega) (by omega) HR.drew true hd4).mono ?_; rintro e w1 ⟨rfl, rfl⟩)
              | (go_at_call 127; refine (swap_i g n c ys j (2 * j + 2) _ (by omega) (by omega) HL.out (by omega) (by omega) HR.drew.drew).mono ?_; rintro e w1 ⟨rfl, HR1, HO1⟩)
              | fail)
            exact ⟨⟨2 * j + 2, swp ys j (2 * j + 2), by congr 1 <;> omega, by omega, (swp_len _ _ _).trans HL.out, HH, HR1, (HO.drew.drew).trans HO1⟩, by simp only [intOf]; omega⟩
          · skip
            have hd4 : decide (ys.getD (2 * j + 2) 0 < ys.getD j 0) = false := decide_eq_false h4
            have HH : Hid (ys = downF xs i0 m) := by have := HU.out; rw [downF_stop _ _ _ h1 (by rw [hk]; exact h4)] at this; exact this
            clear h3 h4 hk
            go_wp2_with (first
              | (go_at_call 126; clear F1; refine (less_i g n c ys (2 * j + 2) (2 * j + 1) _ (by omega) (by omega) HL.out (by omega) (by omega) HR true hd3).mono ?_; rintro e w1 ⟨rfl, rfl⟩)
              | (go_at_call 126; refine (less_i g n c ys (2 * j + 2) j _ (by omega) (by omega) HL.out (by omega) (by omega) HR.drew false hd4).mono ?_; rintro e w1 ⟨rfl, rfl⟩)
              | fail)
            go_ret
            exact ⟨⟨_, rfl⟩, by rw [← HH.out]; exact HR.drew.drew, HO.drew.drew⟩
        · have hk : kid ys j m = 2 * j + 1 := by unfold kid; rw [if_neg (fun h => h3 h.2)]
          have hd3 : decide (ys.getD (2 * j + 2) 0 < ys.getD (2 * j + 1) 0) = false := decide_eq_false h3
          by_cases h4 : ys.getD (2 * j + 1) 0 < ys.getD j 0
          · skip
            have hd4 : decide (ys.getD (2 * j + 1) 0 < ys.getD j 0) = true := decide_eq_true h4
            have HH : Hid (downF (swp ys j (2 * j + 1)) (2 * j + 1) m = downF xs i0 m) := by have := HU.out; rw [downF_go _ _ _ h1 (by rw [hk]; exact h4), hk] at this; exact this
            clear h3 h4 hk
            go_wp2_with (first
              | (go_at_call 126; clear F1; refine (less_i g n c ys (2 * j + 2) (2 * j + 1) _ (by omega) (by omega) HL.out (by omega) (by omega) HR false hd3).mono ?_; rintro e w1 ⟨rfl, rfl⟩)
              | (go_at_call 126; refine (less_i g n c ys (2 * j + 1) j _ (by omega) (by omega) HL.out (by omega) (by omega) HR.drew true hd4).mono ?_; rintro e w1 ⟨rfl, rfl⟩)
              | (go_at_call 127; refine (swap_i g n c ys j (2 * j + 1) _ (by omega) (by omega) HL.out (by omega) (by omega) HR.drew.drew).mono ?_; rintro e w1 ⟨rfl, HR1, HO1⟩)
              | fail)
            exact ⟨⟨2 * j + 1, swp ys j (2 * j + 1), by congr 1 <;> omega, by omega, (swp_len _ _ _).trans HL.out, HH, HR1, (HO.drew.drew).trans HO1⟩, by simp only [intOf]; omega⟩
          · skip
            have hd4 : decide (ys.getD (2 * j + 1) 0 < ys.getD j 0) = false := decide_eq_false h4
            have HH : Hid (ys = downF xs i0 m) := by have := HU.out; rw [downF_stop _ _ _ h1 (by rw [hk]; exact h4)] at this; exact this
            clear h3 h4 hk
            go_wp2_with (first
              | (go_at_call 126; clear F1; refine (less_i g n c ys (2 * j + 2) (2 * j + 1) _ (by omega) (by omega) HL.out (by omega) (by omega) HR false hd3).mono ?_; rintro e w1 ⟨rfl, rfl⟩)
              | (go_at_call 126; refine (less_i g n c ys (2 * j + 1) j _ (by omega) (by omega) HL.out (by omega) (by omega) HR.drew false hd4).mono ?_; rintro e w1 ⟨rfl, rfl⟩)
              | fail)
            go_ret
            exact ⟨⟨_, rfl⟩, by rw [← HH.out]; exact HR.drew.drew, HO.drew.drew⟩
      · have h2' : ¬ 2 * (j : Int) + 1 + 1 < (m : Int) := by omega
        have h2'' : ¬ 2 * (j : Int) + 2 < (m : Int) := by omega
        have hk : kid ys j m = 2 * j + 1 := by unfold kid; rw [if_neg (fun h => h2 h.1)]
        by_cases h4 : ys.getD (2 * j + 1) 0 < ys.getD j 0
        · skip
          have hd4 : decide (ys.getD (2 * j + 1) 0 < ys.getD j 0) = true := decide_eq_true h4
          have HH : Hid (downF (swp ys j (2 * j + 1)) (2 * j + 1) m = downF xs i0 m) := by have := HU.out; rw [downF_go _ _ _ h1 (by rw [hk]; exact h4), hk] at this; exact this
          clear h4 hk
          go_wp2_with (first
            | (go_at_call 126; refine (less_i g n c ys (2 * j + 1) j _ (by omega) (by omega) HL.out (by omega) (by omega) HR true hd4).mono ?_; rintro e w1 ⟨rfl, rfl⟩)
            | (go_at_call 127; refine (swap_i g n c ys j (2 * j + 1) _ (by omega) (by omega) HL.out (by omega) (by omega) HR.drew).mono ?_; rintro e w1 ⟨rfl, HR1, HO1⟩)
            | fail)
          exact ⟨⟨2 * j + 1, swp ys j (2 * j + 1), by congr 1 <;> omega, by omega, (swp_len _ _ _).trans HL.out, HH, HR1, (HO.drew).trans HO1⟩, by simp only [intOf]; omega⟩
        · skip
          have hd4 : decide (ys.getD (2 * j + 1) 0 < ys.getD j 0) = false := decide_eq_false h4
          have HH : Hid (ys = downF xs i0 m) := by have := HU.out; rw [downF_stop _ _ _ h1 (by rw [hk]; exact h4)] at this; exact this
          clear h4 hk
          go_wp2_with (first
            | (go_at_call 126; refine (less_i g n c ys (2 * j + 1) j _ (by omega) (by omega) HL.out (by omega) (by omega) HR false hd4).mono ?_; rintro e w1 ⟨rfl, rfl⟩)
            | fail)
          go_ret
          exact ⟨⟨_, rfl⟩, by rw [← HH.out]; exact HR.drew, HO.drew⟩
    · have h1' : (m : Int) ≤ 2 * (j : Int) + 1 := by omega
      go_wp2
      go_ret
      exact ⟨⟨_, rfl⟩, by have := HU.out; rw [downF_end _ _ _ h1] at this; rw [← this]; exact HR, HO⟩
end Go.Proofs.Ytndmpdpmfieacaa
