/-
  Whether two lists of words are the same, as the program's function tells it; conditions: lengths that fit an int.
-/
import Derived.Test.YtononinmjijhoaaRd
import Derived.Test.YtononinmjijhoaaProg
import Derived.WalkKit
import Derived.BigRegion
import Derived.LoopTactic
import Derived.Laws.Small
import Derived.Laws.Cover1
import Derived.Laws.Slices
namespace Go.Proofs.Ytononinmjijhoaa
open Go.RowKit Go.WideShapes Go.ChangeShapes
set_option linter.all false
def u64s (xs : List Int) : List Value := xs.map (.int .u64)
theorem u64s_len (xs : List Int) : (u64s xs).length = xs.length := by simp [u64s]
theorem Reads.u64 {w : World} {B : Nat} {A : Option Addr} {n : Nat} {xs : List Int} (h : Reads w B 1 A n (u64s xs)) : xs.length = n := by
  have := h.1; rw [u64s_len] at this; omega
theorem Reads.u64at {w : World} {B : Nat} {A : Option Addr} {n k : Nat} {xs : List Int} (h : Reads w B 1 A n (u64s xs)) (hk : k < n) :
    ∃ ad, A = some ad ∧ w.cell? (ad.add k) = some (.int .u64 (xs.getD k 0)) := by
  obtain ⟨ad, u, e, _, hu, hc⟩ := h.at_ hk
  refine ⟨ad, e, ?_⟩
  rw [hc]
  unfold u64s at hu
  rw [List.getElem?_map] at hu
  have hl : k < xs.length := by rw [h.u64]; exact hk
  rw [List.getElem?_eq_getElem hl] at hu
  injection hu with hu
  rw [← hu, List.getD_eq_getElem?_getD, List.getElem?_eq_getElem hl]; rfl
theorem cell_heap {w w' : World} (h : w'.heap = w.heap) (p : Addr) : w'.cell? p = w.cell? p := by unfold World.cell?; rw [h]
theorem take_same {xs ys : List Int} {k : Nat} (hx : k < xs.length) (hy : k < ys.length) (h : xs.take k = ys.take k) (he : xs.getD k 0 = ys.getD k 0) : xs.take (k + 1) = ys.take (k + 1) := by
  rw [List.take_add_one, List.take_add_one, h, List.getElem?_eq_getElem hx, List.getElem?_eq_getElem hy]
  rw [List.getD_eq_getElem?_getD, List.getD_eq_getElem?_getD, List.getElem?_eq_getElem hx, List.getElem?_eq_getElem hy] at he
  simp at he
  simp [he]
def eqB (xs ys : List Int) : Bool := decide (xs = ys)
theorem eqB_true {xs ys : List Int} (h : xs = ys) : Value.bool (eqB xs ys) = .bool true := by unfold eqB; rw [decide_eq_true h]
theorem eqB_false {xs ys : List Int} (h : xs ≠ ys) : Value.bool (eqB xs ys) = .bool false := by unfold eqB; rw [decide_eq_false h]
set_option maxHeartbeats 800000 in
theorem same_any (B : Nat) (A A' : Option Addr) (n m c c' : Nat) (xs ys : List Int) (w : World) (hx : Reads w B 1 A n (u64s xs)) (hy : Reads w B 1 A' m (u64s ys)) (hn : n ≤ 9223372036854775807) (hm : m ≤ 9223372036854775807) :
    Calls Try.prog 24 #[.slice A n c, .slice A' m c'] w fun e w' => e = .returned (.bool (eqB xs ys)) ∧ Below w.heap.size w w' := by
  have LX : Hid (xs.length = n) := hx.u64
  have LY : Hid (ys.length = m) := hy.u64
  by_cases hnm : n = m
  · subst hnm
    go_enter Try.func24, Try.ntmps24
    go_wp2
    go_loopw [5] (fun i wr => ∃ k : Nat, k ≤ n ∧ i = .int .i64 k ∧ xs.take k = ys.take k ∧ Below w.heap.size w wr ∧ wr.heap = w.heap) (fun i _ => n - (intOf i).toNat)
    case atStart => exact ⟨0, Nat.zero_le _, rfl, rfl, Below.refl _ _, rfl⟩
    case round =>
      obtain ⟨k, hk, rfl, htk, hbl, hhp⟩ := hrel
      have HH : Hid (wr.heap = w.heap) := hhp
      have HT : Hid (xs.take k = ys.take k) := htk
      clear hhp htk
      by_cases hlt : k < n
      · obtain ⟨ad, rfl, h1⟩ := hx.u64at hlt
        obtain ⟨ad', rfl, h2⟩ := hy.u64at hlt
        rw [← cell_heap HH.out] at h1 h2
        go_wp2
        go_region
        all_goals (try go_wp2)
        · have hne : (xs.getD k 0 != ys.getD k 0) = true := by assumption
          go_ret
          refine ⟨?_, hbl.drew⟩
          rw [eqB_false (fun e => by subst e; simp at hne)]; rfl
        · have hne : (xs.getD k 0 != ys.getD k 0) = false := by assumption
          go_roundw
          case rel => exact ⟨k + 1, by omega, by go_num, take_same (by rw [LX.out]; exact hlt) (by rw [LY.out]; exact hlt) HT.out (by simpa using hne), hbl.drew, HH.out⟩
          case measure => simp only [intOf]; omega
      · have hkn : k = n := by omega
        have hq := HT.out
        rw [List.take_of_length_le (by rw [LX.out]; omega), List.take_of_length_le (by rw [LY.out]; omega)] at hq
        clear hkn
        have HQ : Hid (xs = ys) := hq
        clear hq
        go_wp2
        go_ret
        exact ⟨by rw [eqB_true HQ.out]; rfl, hbl⟩
  · have hne : xs ≠ ys := by
      rintro rfl
      exact hnm (LX.out.symm.trans LY.out)
    have HN : Hid (xs ≠ ys) := hne
    clear hne
    go_enter Try.func24, Try.ntmps24
    go_wp2
    go_ret
    exact ⟨by rw [eqB_false HN.out]; rfl, Below.refl _ _⟩
end Go.Proofs.Ytononinmjijhoaa
