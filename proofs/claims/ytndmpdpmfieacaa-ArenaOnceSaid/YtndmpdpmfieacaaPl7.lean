/-
  heap.up over the pool's numbers, told by what it makes of the list.
-/
import Derived.Test.YtndmpdpmfieacaaPl6
namespace Go.Proofs.Ytndmpdpmfieacaa
open Go.RowKit Go.WideShapes Go.ChangeShapes
set_option linter.all false
/-- Only block g has turned. -/
structure OnlyR (g : Nat) (w w' : World) : Prop where
  os : w'.os = w.os
  tape : w'.tape = w.tape
  output : w'.output = w.output
  size : w'.heap.size = w.heap.size
  block : ∀ b, b ≠ g → w'.heap[b]? = w.heap[b]?
  own : ∀ B n c xs, w.ownsRow B 3 1 (.slice (some ⟨g, 0, none⟩) n c) n xs → ∃ ys, w'.ownsRow B 3 1 (.slice (some ⟨g, 0, none⟩) n c) n ys
theorem OnlyR.refl (g : Nat) (w : World) : OnlyR g w w := ⟨rfl, rfl, rfl, rfl, fun _ _ => rfl, fun _ _ _ xs h => ⟨xs, h⟩⟩
theorem OnlyR.drew {g : Nat} {w w' : World} (h : OnlyR g w w') : OnlyR g w w'.drew := ⟨h.os, h.tape, h.output, h.size, h.block, fun B n c xs k => h.own B n c xs k⟩
theorem OnlyR.setCell {g : Nat} {w w' : World} (h : OnlyR g w w') (i : Nat) (v : Value) : OnlyR g w (w'.setCell ⟨g, i, none⟩ v) :=
  ⟨h.os, h.tape, h.output, by simpa using h.size, fun b hb => (Below.heap_setCell w' _ _ b hb).trans (h.block b hb), fun B n c xs k => by
    obtain ⟨ys, hy⟩ := h.own B n c xs k
    exact ⟨_, (hy.stored i v).1⟩⟩
theorem OnlyR.cell {g : Nat} {w w' : World} (h : OnlyR g w w') {p : Addr} (hp : p.block ≠ g) : w'.cell? p = w.cell? p := World.cell?_of_block (w := w) (h.block p.block hp)
/-- What up makes of a row. -/
def upF (xs : List Int) (j : Nat) : List Int :=
  if h : 0 < j then
    if xs.getD j 0 < xs.getD ((j - 1) / 2) 0 then upF (swp xs ((j - 1) / 2) j) ((j - 1) / 2) else xs
  else xs
termination_by j
decreasing_by omega
theorem upF_zero (xs : List Int) : upF xs 0 = xs := by rw [upF]; simp
theorem upF_stop (xs : List Int) (m : Nat) (h : ¬ xs.getD (m + 1) 0 < xs.getD (m / 2) 0) : upF xs (m + 1) = xs := by rw [upF]; simp only [Nat.add_sub_cancel]; rw [dif_pos (by omega), if_neg h]
theorem upF_go (xs : List Int) (m : Nat) (h : xs.getD (m + 1) 0 < xs.getD (m / 2) 0) : upF xs (m + 1) = upF (swp xs (m / 2) (m + 1)) (m / 2) := by rw [upF]; simp only [Nat.add_sub_cancel]; rw [dif_pos (by omega), if_pos h]
set_option maxRecDepth 100000 in
set_option maxHeartbeats 400000 in
theorem up_any (P g n c : Nat) (xs : List Int) (j0 : Nat) (w : World) (hj : j0 < n) (hn : xs.length = n) (hN : n < 1000000) (hPg : P ≠ g) (hP : w.cell? ⟨P, 0, none⟩ = some (.slice (some ⟨g, 0, none⟩) n c)) (h : Row g xs w) :
    Calls Try.prog 97 #[.iface 150 (.pointer (some ⟨P, 0, none⟩)), .int .i64 j0] w fun e w' => e = .returned (.tuple #[]) ∧ Row g (upF xs j0) w' ∧ OnlyR g w w' := by
  go_enter Try.func97, Try.ntmps97
  go_wp2
  go_loopw [1] (fun v wr => ∃ (j : Nat) (ys : List Int), v = .int .i64 j ∧ j < n ∧ Hid (ys.length = n) ∧ Hid (upF ys j = upF xs j0) ∧ Row g ys wr ∧ OnlyR g w wr) (fun v _ => (intOf v).toNat)
  case atStart => exact ⟨j0, xs, rfl, hj, hn, rfl, h, OnlyR.refl _ _⟩
  case round =>
    obtain ⟨j, ys, rfl, hjn, HL, HU, HR, HO⟩ := hrel
    have hc : wr.cell? ⟨P, 0, none⟩ = some (.slice (some ⟨g, 0, none⟩) n c) := (HO.cell hPg).trans hP
    cases j with
    | zero =>
      go_wp2
      go_end0
      exact ⟨rfl, by have := HU.out; rw [upF_zero] at this; rw [← this]; exact HR, HO⟩
    | succ m =>
      have hm1 := m_less _ _ _ _ _ hc
      have L := less_any g n c ys (m + 1) (m / 2) wr HL.out (by omega) (by omega) HR
      have S := swap_any g n c ys (m / 2) (m + 1) wr.drew HL.out (by omega) (by omega) HR.drew
      have hcd : wr.drew.cell? ⟨P, 0, none⟩ = some (.slice (some ⟨g, 0, none⟩) n c) := hc
      have hm2 := m_swap _ _ _ _ _ hcd
      have hq : ((m / 2 : Nat) : Int) = (m : Int) / 2 := by omega
      have hs : ((m + 1 : Nat) : Int) = (m : Int) + 1 := by omega
      rw [hq, hs] at L S
      have hne : ((m : Int) / 2 == (m : Int) + 1) = false := by simp; omega
      have hne2 : ¬ ((m : Int) / 2 = (m : Int) + 1) := by omega
      by_cases hb : ys.getD (m + 1) 0 < ys.getD (m / 2) 0
      · rw [decide_eq_true hb] at L
        go_wp2_with (first
          | (go_at_call 126; refine L.mono ?_; rintro e w1 ⟨rfl, rfl⟩)
          | (go_at_call 127; refine S.mono ?_; rintro e w1 ⟨rfl, rfl⟩)
          | fail)
        go_roundw
        case rel =>
          exact ⟨m / 2, swp ys (m / 2) (m + 1), by rw [hq], by omega, by rw [show Hid _ = _ from rfl, swp_len]; exact HL.out, by have := HU.out; rw [upF_go _ _ (by omega)] at this; exact this,
            HR.drew.swapped (m / 2) (m + 1) (by have := HL.out; omega) (by have := HL.out; omega), ((HO.drew.drew.setCell _ _).setCell _ _)⟩
        case measure => simp only [intOf]; omega
      · rw [decide_eq_false hb] at L
        go_wp2_with (first
          | (go_at_call 126; refine L.mono ?_; rintro e w1 ⟨rfl, rfl⟩)
          | fail)
        go_end0
        exact ⟨rfl, by have := HU.out; rw [upF_stop _ _ (by omega)] at this; rw [← this]; exact HR.drew, HO.drew⟩
end Go.Proofs.Ytndmpdpmfieacaa
