/-
  heap.down over the heads, told by what it makes of the list; Init, Fix, Pop; conditions: lengths.
-/
import Derived.Test.YthgjpdbajmfclaaMg5
namespace Go.Proofs.Ythgjpdbajmfclaa
open Go.RowKit Go.WideShapes Go.ChangeShapes
set_option linter.all false
theorem len_any (x : Option Addr) (n c : Nat) (w : World) : Calls Try.prog 43 #[.slice x n c] w fun e w' => e = .returned (.int .i64 (n : Int)) ∧ w' = w := by
  go_enter Try.func43, Try.ntmps43
  go_wp2
  go_ret
  exact ⟨rfl, rfl⟩
/-- Only block g has turned. -/
structure OnlyR (g : Nat) (w w' : World) : Prop where
  os : w'.os = w.os
  tape : w'.tape = w.tape
  output : w'.output = w.output
  size : w'.heap.size = w.heap.size
  block : ∀ b, b ≠ g → w'.heap[b]? = w.heap[b]?
theorem OnlyR.refl (g : Nat) (w : World) : OnlyR g w w := ⟨rfl, rfl, rfl, rfl, fun _ _ => rfl⟩
theorem OnlyR.drew {g : Nat} {w w' : World} (h : OnlyR g w w') : OnlyR g w w'.drew := ⟨h.os, h.tape, h.output, h.size, h.block⟩
theorem OnlyR.setCell {g : Nat} {w w' : World} (h : OnlyR g w w') (i : Nat) (v : Value) : OnlyR g w (w'.setCell ⟨g, i, none⟩ v) :=
  ⟨h.os, h.tape, h.output, by simpa using h.size, fun b hb => (Below.heap_setCell w' _ _ b hb).trans (h.block b hb)⟩
theorem OnlyR.cell {g : Nat} {w w' : World} (h : OnlyR g w w') {p : Addr} (hp : p.block ≠ g) : w'.cell? p = w.cell? p := World.cell?_of_block (w := w) (h.block p.block hp)
theorem less_i (g B n c : Nat) (xs : List El) {a b : Int} (i j : Nat) (w : World) (ha : a = i) (hb : b = j) (hn : xs.length = n) (hi : i < n) (hj : j < n) (h : Row g B xs w) (v : Bool) (hv : decide (kk xs i < kk xs j) = v) :
    Calls Try.prog 44 #[.slice (some ⟨g, 0, none⟩) n c, .int .i64 a, .int .i64 b] w fun e w' => e = .returned (.bool v) ∧ w' = w.drew := by
  subst ha hb hv; exact less_any g B n c xs i j w hn hi hj h
theorem swap_i (g B n c : Nat) (xs : List El) {a b : Int} (i j : Nat) (w : World) (ha : a = i) (hb : b = j) (hn : xs.length = n) (hi : i < n) (hj : j < n) (hgB : B ≤ g) (h : Row g B xs w) :
    Calls Try.prog 45 #[.slice (some ⟨g, 0, none⟩) n c, .int .i64 a, .int .i64 b] w fun e w' => e = .returned (.tuple #[]) ∧ Row g B (swp xs i j) w' ∧ OnlyR g w w' := by
  subst ha hb
  refine (swap_any g B n c xs i j w hn hi hj h).mono ?_
  rintro e w' ⟨rfl, rfl⟩
  exact ⟨rfl, h.swapped hgB i j (by omega) (by omega), ((OnlyR.refl g w).drew.setCell _ _).setCell _ _⟩
theorem OnlyR.trans {g : Nat} {a b c : World} (h : OnlyR g a b) (k : OnlyR g b c) : OnlyR g a c :=
  ⟨k.os.trans h.os, k.tape.trans h.tape, k.output.trans h.output, k.size.trans h.size, fun i hi => (k.block i hi).trans (h.block i hi)⟩
set_option maxRecDepth 100000 in
set_option maxHeartbeats 4000000 in
theorem down_any (P g B n c m : Nat) (xs : List El) (i0 : Nat) (w : World) (hm : m ≤ n) (hj : i0 ≤ m) (hn : xs.length = n) (hN : n < 1000000) (hPg : P ≠ g) (hgB : B ≤ g) (hP : w.cell? ⟨P, 0, none⟩ = some (.slice (some ⟨g, 0, none⟩) n c)) (h : Row g B xs w) :
    Calls Try.prog 25 #[.iface 40 (.pointer (some ⟨P, 0, none⟩)), .int .i64 i0, .int .i64 m] w fun e w' => (∃ b, e = .returned (.bool b)) ∧ Row g B (downF xs i0 m) w' ∧ OnlyR g w w' := by
  go_enter Try.func25, Try.ntmps25
  go_wp2
  go_loopw [7] (fun v wr => ∃ (j : Nat) (ys : List El), v = .int .i64 j ∧ j ≤ m ∧ Hid (ys.length = n) ∧ Hid (downF ys j m = downF xs i0 m) ∧ Row g B ys wr ∧ OnlyR g w wr) (fun v _ => m - (intOf v).toNat)
  case atStart => exact ⟨i0, xs, rfl, hj, hn, rfl, h, OnlyR.refl _ _⟩
  case round =>
    obtain ⟨j, ys, rfl, hjn, HL, HU, HR, HO⟩ := hrel
    have hc : wr.cell? ⟨P, 0, none⟩ = some (.slice (some ⟨g, 0, none⟩) n c) := (HO.cell hPg).trans hP
    by_cases h1 : 2 * j + 1 < m
    · have h1' : ¬ ((m : Int) ≤ 2 * (j : Int) + 1) := by omega
      have h1'' : ¬ (2 * (j : Int) + 1 < 0) := by omega
      have hm1 := m_less _ _ _ _ _ hc
      have hc2 : wr.drew.cell? ⟨P, 0, none⟩ = some (.slice (some ⟨g, 0, none⟩) n c) := hc
      have hc3 : wr.drew.drew.cell? ⟨P, 0, none⟩ = some (.slice (some ⟨g, 0, none⟩) n c) := hc
      have hm2 := m_less _ _ _ _ _ hc2
      have hm3 := m_swap _ _ _ _ _ hc2
      have hm4 := m_swap _ _ _ _ _ hc3
      have HK := kid_lt ys j m h1
      have HG := kid_gt ys j m
      have F1 : Hid True := trivial
      have KL : Hid (kid ys j m < m ∧ j < kid ys j m) := ⟨HK, HG⟩
      clear HK HG
      by_cases h2 : 2 * j + 2 < m
      · have h2' : 2 * (j : Int) + 1 + 1 < (m : Int) := by omega
        have h2'' : 2 * (j : Int) + 2 < (m : Int) := by omega
        by_cases h3 : kk ys (2 * j + 2) < kk ys (2 * j + 1)
        · have hk : kid ys j m = 2 * j + 2 := by unfold kid; rw [if_pos ⟨h2, h3⟩]
          have hd3 : decide (kk ys (2 * j + 2) < kk ys (2 * j + 1)) = true := decide_eq_true h3
          by_cases h4 : kk ys (2 * j + 2) < kk ys j
          · skip
            have hd4 : decide (kk ys (2 * j + 2) < kk ys j) = true := decide_eq_true h4
            have HH : Hid (downF (swp ys j (2 * j + 2)) (2 * j + 2) m = downF xs i0 m) := by have := HU.out; rw [downF_go _ _ _ h1 (by rw [hk]; exact h4), hk] at this; exact this
            clear h3 h4 hk
            go_wp2_with (first
              | (go_at_call 44; clear F1; refine (less_i g B n c ys (2 * j + 2) (2 * j + 1) _ (by omega) (by omega) HL.out (by omega) (by omega) HR true hd3).mono ?_; rintro e w1 ⟨rfl, rfl⟩)
              | (go_at_call 44; refine (less_i g B n c ys (2 * j + 2) j _ (by omega) (by omega) HL.out (by omega) (by omega) HR.drew true hd4).mono ?_; rintro e w1 ⟨rfl, rfl⟩)
              | (go_at_call 45; refine (swap_i g B n c ys j (2 * j + 2) _ (by omega) (by omega) HL.out (by omega) (by omega) hgB HR.drew.drew).mono ?_; rintro e w1 ⟨rfl, HR1, HO1⟩)
              | fail)
            exact ⟨⟨2 * j + 2, swp ys j (2 * j + 2), by congr 1 <;> omega, by omega, (swp_len _ _ _).trans HL.out, HH, HR1, (HO.drew.drew).trans HO1⟩, by simp only [intOf]; omega⟩
          · skip
            have hd4 : decide (kk ys (2 * j + 2) < kk ys j) = false := decide_eq_false h4
            have HH : Hid (ys = downF xs i0 m) := by have := HU.out; rw [downF_stop _ _ _ h1 (by rw [hk]; exact h4)] at this; exact this
            clear h3 h4 hk
            go_wp2_with (first
              | (go_at_call 44; clear F1; refine (less_i g B n c ys (2 * j + 2) (2 * j + 1) _ (by omega) (by omega) HL.out (by omega) (by omega) HR true hd3).mono ?_; rintro e w1 ⟨rfl, rfl⟩)
              | (go_at_call 44; refine (less_i g B n c ys (2 * j + 2) j _ (by omega) (by omega) HL.out (by omega) (by omega) HR.drew false hd4).mono ?_; rintro e w1 ⟨rfl, rfl⟩)
              | fail)
            go_ret
            exact ⟨⟨_, rfl⟩, by rw [← HH.out]; exact HR.drew.drew, HO.drew.drew⟩
        · have hk : kid ys j m = 2 * j + 1 := by unfold kid; rw [if_neg (fun h => h3 h.2)]
          have hd3 : decide (kk ys (2 * j + 2) < kk ys (2 * j + 1)) = false := decide_eq_false h3
          by_cases h4 : kk ys (2 * j + 1) < kk ys j
          · skip
            have hd4 : decide (kk ys (2 * j + 1) < kk ys j) = true := decide_eq_true h4
            have HH : Hid (downF (swp ys j (2 * j + 1)) (2 * j + 1) m = downF xs i0 m) := by have := HU.out; rw [downF_go _ _ _ h1 (by rw [hk]; exact h4), hk] at this; exact this
            clear h3 h4 hk
            go_wp2_with (first
              | (go_at_call 44; clear F1; refine (less_i g B n c ys (2 * j + 2) (2 * j + 1) _ (by omega) (by omega) HL.out (by omega) (by omega) HR false hd3).mono ?_; rintro e w1 ⟨rfl, rfl⟩)
              | (go_at_call 44; refine (less_i g B n c ys (2 * j + 1) j _ (by omega) (by omega) HL.out (by omega) (by omega) HR.drew true hd4).mono ?_; rintro e w1 ⟨rfl, rfl⟩)
              | (go_at_call 45; refine (swap_i g B n c ys j (2 * j + 1) _ (by omega) (by omega) HL.out (by omega) (by omega) hgB HR.drew.drew).mono ?_; rintro e w1 ⟨rfl, HR1, HO1⟩)
              | fail)
            exact ⟨⟨2 * j + 1, swp ys j (2 * j + 1), by congr 1 <;> omega, by omega, (swp_len _ _ _).trans HL.out, HH, HR1, (HO.drew.drew).trans HO1⟩, by simp only [intOf]; omega⟩
          · skip
            have hd4 : decide (kk ys (2 * j + 1) < kk ys j) = false := decide_eq_false h4
            have HH : Hid (ys = downF xs i0 m) := by have := HU.out; rw [downF_stop _ _ _ h1 (by rw [hk]; exact h4)] at this; exact this
            clear h3 h4 hk
            go_wp2_with (first
              | (go_at_call 44; clear F1; refine (less_i g B n c ys (2 * j + 2) (2 * j + 1) _ (by omega) (by omega) HL.out (by omega) (by omega) HR false hd3).mono ?_; rintro e w1 ⟨rfl, rfl⟩)
              | (go_at_call 44; refine (less_i g B n c ys (2 * j + 1) j _ (by omega) (by omega) HL.out (by omega) (by omega) HR.drew false hd4).mono ?_; rintro e w1 ⟨rfl, rfl⟩)
              | fail)
            go_ret
            exact ⟨⟨_, rfl⟩, by rw [← HH.out]; exact HR.drew.drew, HO.drew.drew⟩
      · have h2' : ¬ 2 * (j : Int) + 1 + 1 < (m : Int) := by omega
        have h2'' : ¬ 2 * (j : Int) + 2 < (m : Int) := by omega
        have hk : kid ys j m = 2 * j + 1 := by unfold kid; rw [if_neg (fun h => h2 h.1)]
        by_cases h4 : kk ys (2 * j + 1) < kk ys j
        · skip
          have hd4 : decide (kk ys (2 * j + 1) < kk ys j) = true := decide_eq_true h4
          have HH : Hid (downF (swp ys j (2 * j + 1)) (2 * j + 1) m = downF xs i0 m) := by have := HU.out; rw [downF_go _ _ _ h1 (by rw [hk]; exact h4), hk] at this; exact this
          clear h4 hk
          go_wp2_with (first
            | (go_at_call 44; refine (less_i g B n c ys (2 * j + 1) j _ (by omega) (by omega) HL.out (by omega) (by omega) HR true hd4).mono ?_; rintro e w1 ⟨rfl, rfl⟩)
            | (go_at_call 45; refine (swap_i g B n c ys j (2 * j + 1) _ (by omega) (by omega) HL.out (by omega) (by omega) hgB HR.drew).mono ?_; rintro e w1 ⟨rfl, HR1, HO1⟩)
            | fail)
          exact ⟨⟨2 * j + 1, swp ys j (2 * j + 1), by congr 1 <;> omega, by omega, (swp_len _ _ _).trans HL.out, HH, HR1, (HO.drew).trans HO1⟩, by simp only [intOf]; omega⟩
        · skip
          have hd4 : decide (kk ys (2 * j + 1) < kk ys j) = false := decide_eq_false h4
          have HH : Hid (ys = downF xs i0 m) := by have := HU.out; rw [downF_stop _ _ _ h1 (by rw [hk]; exact h4)] at this; exact this
          clear h4 hk
          go_wp2_with (first
            | (go_at_call 44; refine (less_i g B n c ys (2 * j + 1) j _ (by omega) (by omega) HL.out (by omega) (by omega) HR false hd4).mono ?_; rintro e w1 ⟨rfl, rfl⟩)
            | fail)
          go_ret
          exact ⟨⟨_, rfl⟩, by rw [← HH.out]; exact HR.drew, HO.drew⟩
    · have h1' : (m : Int) ≤ 2 * (j : Int) + 1 := by omega
      go_wp2
      go_ret
      exact ⟨⟨_, rfl⟩, by have := HU.out; rw [downF_end _ _ _ h1] at this; rw [← this]; exact HR, HO⟩
end Go.Proofs.Ythgjpdbajmfclaa
