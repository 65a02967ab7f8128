/-
  slices.Equal at lists of words; the document's RightLeaf and EncodeLeaf; conditions: lengths that fit an int.
-/
import Derived.Test.YtononinmjijhoaaNkJ
namespace Go.Proofs.Ytononinmjijhoaa
open Go.RowKit Go.WideShapes Go.ChangeShapes
set_option linter.all false
set_option maxRecDepth 100000 in
set_option maxHeartbeats 1600000 in
theorem equal_any (B : Nat) (A A' : Option Addr) (n m c c' : Nat) (xs ys : List Int) (w : World) (hx : Reads w B 1 A n (u64s xs)) (hy : Reads w B 1 A' m (u64s ys)) (hn : n ≤ 9223372036854775807) (hm : m ≤ 9223372036854775807) :
    Calls Try.prog 44 #[.slice A n c, .slice A' m c'] w fun e w' => e = .returned (.bool (eqB xs ys)) ∧ Below w.heap.size w w' := by
  have LX : Hid (xs.length = n) := Lib.hid hx.u64
  have LY : Hid (ys.length = m) := Lib.hid hy.u64
  by_cases hnm : n = m
  · subst hnm
    go_enter Try.func44, Try.ntmps44
    go_wp2
    go_loopw [13] (fun i wr => ∃ k : Nat, k ≤ n ∧ i = .int .i64 k ∧ Hid (xs.take k = ys.take k) ∧ Below w.heap.size w wr ∧ wr.heap = w.heap) (fun i _ => n - (intOf i).toNat)
    case atStart => exact ⟨0, Nat.zero_le _, rfl, Lib.hid (by simp), Below.refl _ _, rfl⟩
    case round =>
      obtain ⟨k, hk, rfl, HT, hbl, hhp⟩ := hrel
      by_cases hlt : k < n
      · obtain ⟨ax, rfl, h1⟩ := hx.u64at hlt
        obtain ⟨ay, rfl, h2⟩ := hy.u64at hlt
        rw [← cell_heap hhp] at h1 h2
        have HKX : Hid (k < xs.length) := Lib.hid (by rw [LX.out]; exact hlt)
        have HKY : Hid (k < ys.length) := Lib.hid (by rw [LY.out]; exact hlt)
        obtain ⟨x, hxx⟩ : ∃ x, x = xs.getD k 0 := ⟨_, rfl⟩
        obtain ⟨y, hyy⟩ : ∃ y, y = ys.getD k 0 := ⟨_, rfl⟩
        rw [← hxx] at h1
        rw [← hyy] at h2
        have HX := Lib.hid hxx
        have HY := Lib.hid hyy
        clear hxx hyy
        have HBW : Hid (Below w.heap.size w wr.drew) := Lib.hid hbl.drew
        by_cases hxy : x = y
        · have HN : Hid (xs.take (k + 1) = ys.take (k + 1)) := Lib.hid (take_same HKX.out HKY.out HT.out (by rw [← HX.out, ← HY.out, hxy]))
          go_wp2
          go_region
          all_goals
            go_wp2
            go_roundw
            case rel => exact ⟨k + 1, by omega, by go_num, HN, HBW.out, hhp⟩
            case measure => simp only [intOf]; omega
        · have HNE : Hid (xs ≠ ys) := Lib.hid (fun e => hxy (by rw [HX.out, HY.out, e]))
          go_wp2
          go_region
          all_goals
            go_wp2
            go_ret
            exact ⟨by rw [eqB_false HNE.out]; rfl, HBW.out⟩
      · obtain rfl : n = k := by omega
        have HEQ : Hid (xs = ys) := Lib.hid (by
          have h := HT.out
          rw [List.take_of_length_le (by rw [LX.out]; exact Nat.le_refl _), List.take_of_length_le (by rw [LY.out]; exact Nat.le_refl _)] at h
          exact h)
        go_wp2
        go_ret
        exact ⟨by rw [eqB_true HEQ.out]; rfl, hbl⟩
  · have HNE : Hid (xs ≠ ys) := Lib.hid (fun e => hnm (by rw [← LX.out, ← LY.out, e]))
    go_enter Try.func44, Try.ntmps44
    go_wp2
    go_ret
    exact ⟨by rw [eqB_false HNE.out]; rfl, Below.refl _ _⟩
end Go.Proofs.Ytononinmjijhoaa
