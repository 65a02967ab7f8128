/-
  The arena's small functions: Size, poison; no condition.
-/
import Derived.Test.YtndmpdpmfieacaaAr1
import Derived.Test.YtndmpdpmfieacaaMid
import Derived.Deep.Cut
namespace Go.Proofs.Ytndmpdpmfieacaa
open Go.RowKit Go.WideShapes Go.ChangeShapes
set_option linter.all false
theorem size_in (c : Nat) (hc : c < 5) (w : World) : Calls Try.prog 22 #[.int .i64 (c : Nat)] w fun e w' => e = .returned (.int .i64 (szN c : Nat)) ∧ w' = w := by
  have h : c = 0 ∨ c = 1 ∨ c = 2 ∨ c = 3 ∨ c = 4 := by omega
  rcases h with rfl | rfl | rfl | rfl | rfl
  all_goals
    go_enter Try.func22, Try.ntmps22
    go_wp2
    go_ret
    exact ⟨rfl, rfl⟩
theorem size_out (c : Int) (hc : c < 0 ∨ 5 ≤ c) (w : World) : Calls Try.prog 22 #[.int .i64 c] w fun e w' => e = .returned (.int .i64 0) ∧ w' = w := by
  have h0 : (c == 0) = false := by simp; omega
  have h1 : (c == 1) = false := by simp; omega
  have h2 : (c == 2) = false := by simp; omega
  have h3 : (c == 3) = false := by simp; omega
  have h4 : (c == 4) = false := by simp; omega
  clear hc
  go_enter Try.func22, Try.ntmps22
  go_wp2
  go_ret
  exact ⟨rfl, rfl⟩
@[reducible] def poisonV : Int := 16045690984833335023
/-- Behind k steps of poison. -/
def PoI (w : World) (b n k : Nat) (cs : List Value) (W : World) : Prop :=
  W.heap[b]? = some (.cells (List.replicate k (Value.int .u64 poisonV) ++ cs.drop k).toArray 35 (0, 0)) ∧ w.grownBy W (some b)
theorem PoI.step {w W : World} {b n k : Nat} {cs : List Value} (h : PoI w b n k cs W) (hl : cs.length = n) (hk : k < n) : PoI w b n (k + 1) cs (W.setCell ⟨b, k, none⟩ (.int .u64 poisonV)) := by
  obtain ⟨h1, h2⟩ := h
  refine ⟨?_, ⟨h2.os, h2.tape, h2.output, by simpa using h2.size, fun x hx hne => (heap_far W _ _ (by intro e; exact hne (by rw [e]))).trans (h2.block x hx hne)⟩⟩
  rw [heap_setCell_same W b k _ 35 _ h1]
  congr 2
  apply Array.ext'
  rw [Array.toList_setIfInBounds]
  show (List.replicate k (Value.int .u64 poisonV) ++ cs.drop k).set k (.int .u64 poisonV) = List.replicate (k + 1) (Value.int .u64 poisonV) ++ cs.drop (k + 1)
  rw [List.set_append_right _ _ (by simp), List.length_replicate, Nat.sub_self, List.drop_eq_getElem_cons (by omega), List.set_cons_zero, List.replicate_succ', List.append_assoc]
  rfl
set_option maxRecDepth 100000 in
set_option maxHeartbeats 800000 in
theorem poison_any (S o b n : Nat) (cs : List Value) (w : World) (h3 : w.cell? ⟨S, o + 3, none⟩ = some (.slice (some ⟨b, 0, none⟩) n n)) (hb : w.heap[b]? = some (.cells cs.toArray 35 (0, 0))) (hl : cs.length = n) (hne : b ≠ S) (hn : n ≤ 1000) :
    Calls Try.prog 54 #[.pointer (some ⟨S, o, none⟩)] w fun e w' => e = .returned (.tuple #[]) ∧ w'.heap[b]? = some (.cells (List.replicate n (Value.int .u64 poisonV)).toArray 35 (0, 0)) ∧ w.grownBy w' (some b) := by
  have HL := Lib.hid hl
  have lS := World.block_lt_of_cell? w _ h3
  have HC3 : Hid (∀ W, w.grownBy W (some b) → W.cell? ⟨S, o + 3, none⟩ = some (.slice (some ⟨b, 0, none⟩) n n)) := Lib.hid (fun W h => (World.cell?_of_block (a := ⟨S, o + 3, none⟩) (h.block S lS (by intro e; injection e with e; exact hne e.symm))).trans h3)
  have HP0 : Hid (PoI w b n 0 cs w) := Lib.hid ⟨by simpa using hb, ⟨rfl, rfl, rfl, Nat.le_refl _, fun _ _ _ => rfl⟩⟩
  clear hb hl hne
  go_enter Try.func54, Try.ntmps54
  go_wp2
  go_loopw [8] (fun i W => ∃ k : Nat, i = .int .i64 k ∧ k ≤ n ∧ Hid (PoI w b n k cs W)) (fun i _ => n - (intOf i).toNat)
  case atStart => exact ⟨0, rfl, Nat.zero_le _, HP0⟩
  case round =>
    obtain ⟨k, rfl, hk, HP⟩ := hrel
    have c3 := HC3.out wr HP.out.2
    have k0 : (0 : Int) ≤ k := by omega
    clear h3
    by_cases hkn : k < n
    · have k1 : (k : Int) < n := by omega
      have ck : wr.cell? ⟨b, k, none⟩ = some (cs[k]'(by rw [HL.out]; exact hkn)) := by
        rw [cell_of HP.out.1]
        simp
        rw [List.getElem?_append_right (by simp)]
        simp
      have fk := frozen_of HP.out.1 k
      go_wp2
      go_roundw
      case rel => exact ⟨k + 1, by go_num, by omega, Lib.hid (HP.out.step HL.out hkn)⟩
      case measure => simp only [intOf]; omega
    · obtain rfl : n = k := by omega
      go_wp2
      go_end0
      exact ⟨rfl, by have := HP.out.1; rw [← HL.out, List.drop_length, List.append_nil] at this; rw [← HL.out]; exact this, HP.out.2⟩
end Go.Proofs.Ytndmpdpmfieacaa
