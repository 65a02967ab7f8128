/-
  Letters, and sameness of lists of texts; conditions: lengths that fit an int.
-/
import Derived.Test.YtoffibcplbfokaaTk0
import Derived.Test.YtoffibcplbfokaaMid
import Derived.Test.YtoffibcplbfokaaBase
import Derived.Test.YtoffibcplbfokaaProg
import Derived.WalkKit
import Derived.BigRegion
import Derived.LoopTactic
import Derived.Laws.Small
import Derived.Laws.Cover1
import Derived.Laws.Slices
import Derived.Laws.Strings
import Derived.Laws.Concat
import Derived.OwnWalk
import Derived.Laws.CopyOwn
import Derived.Laws.Rows
import Derived.Lib.Hide
import Derived.Sort.EncStr
import Derived.KernelRfl
namespace Go.Proofs.Ytoffibcplbfokaa
open Go.RowKit Go.WideShapes Go.ChangeShapes
set_option linter.all false
theorem after {a b c : World} (h : Below a.heap.size a b) (k : Below b.heap.size b c) : Below a.heap.size a c := h.trans (k.mono h.size)
def bt (l : List UInt8) : ByteArray := ⟨l.toArray⟩
theorem bt_toList (x : List UInt8) : (bt x).toList = x := by rw [ByteArray.toList_eq]; rfl
theorem bt_data (x : List UInt8) : (bt x).data.toList = x := rfl
theorem bt_of (s : ByteArray) : bt s.data.toList = s := rfl
theorem bt_size (x : List UInt8) : (bt x).size = x.length := rfl
def strs (xs : List (List UInt8)) : List Value := xs.map fun x => .string (bt x)
theorem strs_len (xs : List (List UInt8)) : (strs xs).length = xs.length := by simp [strs]
theorem strs_append (a b : List (List UInt8)) : strs (a ++ b) = strs a ++ strs b := List.map_append
theorem strs_one (xs : List (List UInt8)) : ∀ v ∈ strs xs, v.oneCell' = true := by
  intro v hv
  unfold strs at hv
  obtain ⟨x, _, rfl⟩ := List.mem_map.1 hv
  rfl
theorem Reads.sl {w : World} {B : Nat} {A : Option Addr} {n : Nat} {xs : List (List UInt8)} (h : Reads w B 1 A n (strs xs)) : xs.length = n := by
  have := h.1; rw [strs_len] at this; omega
theorem Reads.sat {w : World} {B : Nat} {A : Option Addr} {n k : Nat} {xs : List (List UInt8)} (h : Reads w B 1 A n (strs xs)) (hk : k < n) :
    ∃ ad, A = some ad ∧ w.cell? (ad.add k) = some (.string (bt (xs.getD k []))) := by
  obtain ⟨ad, u, e, _, hu, hc⟩ := h.at_ hk
  refine ⟨ad, e, ?_⟩
  rw [hc]
  unfold strs at hu
  rw [List.getElem?_map] at hu
  have hl : k < xs.length := by rw [h.sl]; exact hk
  rw [List.getElem?_eq_getElem hl] at hu
  injection hu with hu
  rw [← hu, List.getD_eq_getElem?_getD, List.getElem?_eq_getElem hl]; rfl
theorem cell_heap {w w' : World} (h : w'.heap = w.heap) (p : Addr) : w'.cell? p = w.cell? p := by unfold World.cell?; rw [h]
theorem take_same {xs ys : List (List UInt8)} {k : Nat} (hx : k < xs.length) (hy : k < ys.length) (h : xs.take k = ys.take k) (he : xs.getD k [] = ys.getD k []) : xs.take (k + 1) = ys.take (k + 1) := by
  rw [List.take_add_one, List.take_add_one, h, List.getElem?_eq_getElem hx, List.getElem?_eq_getElem hy]
  rw [List.getD_eq_getElem?_getD, List.getD_eq_getElem?_getD, List.getElem?_eq_getElem hx, List.getElem?_eq_getElem hy] at he
  simp at he
  simp [he]
def eqB (xs ys : List (List UInt8)) : Bool := decide (xs = ys)
theorem eqB_true {xs ys : List (List UInt8)} (h : xs = ys) : Value.bool (eqB xs ys) = .bool true := by unfold eqB; rw [decide_eq_true h]
theorem eqB_false {xs ys : List (List UInt8)} (h : xs ≠ ys) : Value.bool (eqB xs ys) = .bool false := by unfold eqB; rw [decide_eq_false h]
theorem eqB_self (xs : List (List UInt8)) : eqB xs xs = true := by unfold eqB; simp
def letN (n : Nat) : Nat := if (97 ≤ n ∧ n ≤ 122) ∨ (48 ≤ n ∧ n ≤ 57) then n else if 65 ≤ n ∧ n ≤ 90 then n + 32 else 0
theorem letN_checks : ((List.range 256).all fun n => (letter (UInt8.ofNat n)).toNat == letN n) = true := by kernel_rfl
theorem letN_eq (c : UInt8) : letN c.toNat = (letter c).toNat := by
  have := List.all_eq_true.1 letN_checks c.toNat (List.mem_range.2 c.toNat_lt)
  simpa using (by simpa using this : (letter (UInt8.ofNat c.toNat)).toNat = letN c.toNat).symm
theorem ret_u8 {a b : Int} (h : a = b) : Ending.returned (.int .u8 a) = .returned (.int .u8 b) := by rw [h]
set_option maxHeartbeats 800000 in
theorem letter_n (n : Nat) (hn : n < 256) (w : World) : Calls Try.prog 11 #[.int .u8 n] w fun e w' => e = .returned (.int .u8 (letN n : Nat)) ∧ w' = w := by
  go_enter Try.func11, Try.ntmps11
  go_wp2
  all_goals go_ret
  all_goals refine ⟨ret_u8 ?_, rfl⟩
  all_goals unfold letN
  all_goals first
    | (rw [if_pos (by omega)]; done)
    | (rw [if_neg (by omega), if_pos (by omega)]; omega)
    | (rw [if_neg (by omega), if_neg (by omega)]; rfl)
set_option maxHeartbeats 800000 in
theorem rletter_n (n : Nat) (hn : n < 256) (w : World) : Calls Try.prog 12 #[.int .u8 n] w fun e w' => e = .returned (.int .u8 (letN n : Nat)) ∧ w' = w := by
  go_enter Try.func12, Try.ntmps12
  go_wp2
  all_goals go_ret
  all_goals refine ⟨ret_u8 ?_, rfl⟩
  all_goals unfold letN
  all_goals first
    | (rw [if_pos (by omega)]; done)
    | (rw [if_neg (by omega), if_pos (by omega)]; omega)
    | (rw [if_neg (by omega), if_neg (by omega)]; rfl)
theorem letter_any (c : UInt8) (w : World) : Calls Try.prog 11 #[.int .u8 (c.toNat : Int)] w fun e w' => e = .returned (.int .u8 ((letter c).toNat : Int)) ∧ w' = w := by
  have := letter_n c.toNat c.toNat_lt w
  rwa [letN_eq] at this
theorem rletter_any (c : UInt8) (w : World) : Calls Try.prog 12 #[.int .u8 (c.toNat : Int)] w fun e w' => e = .returned (.int .u8 ((letter c).toNat : Int)) ∧ w' = w := by
  have := rletter_n c.toNat c.toNat_lt w
  rwa [letN_eq] at this
set_option maxHeartbeats 800000 in
theorem same_s (B : Nat) (A A' : Option Addr) (n m c c' : Nat) (xs ys : List (List UInt8)) (w : World) (hx : Reads w B 1 A n (strs xs)) (hy : Reads w B 1 A' m (strs ys)) (hn : n ≤ 9223372036854775807) (hm : m ≤ 9223372036854775807) :
    Calls Try.prog 10 #[.slice A n c, .slice A' m c'] w fun e w' => e = .returned (.bool (eqB xs ys)) ∧ Below w.heap.size w w' := by
  have LX : Hid (xs.length = n) := hx.sl
  have LY : Hid (ys.length = m) := hy.sl
  by_cases hnm : n = m
  · subst hnm
    go_enter Try.func10, Try.ntmps10
    go_wp2
    go_loopw [5] (fun i wr => ∃ k : Nat, k ≤ n ∧ i = .int .i64 k ∧ xs.take k = ys.take k ∧ Below w.heap.size w wr ∧ wr.heap = w.heap) (fun i _ => n - (intOf i).toNat)
    case atStart => exact ⟨0, Nat.zero_le _, rfl, rfl, Below.refl _ _, rfl⟩
    case round =>
      obtain ⟨k, hk, rfl, htk, hbl, hhp⟩ := hrel
      have HH : Hid (wr.heap = w.heap) := hhp
      have HT : Hid (xs.take k = ys.take k) := htk
      clear hhp htk
      by_cases hlt : k < n
      · obtain ⟨ad, rfl, h1⟩ := hx.sat hlt
        obtain ⟨ad', rfl, h2⟩ := hy.sat hlt
        rw [← cell_heap HH.out] at h1 h2
        go_wp2
        go_region
        all_goals (try go_wp2)
        · have hne : (!((bt (xs[k]?.getD [])).toList == (bt (ys[k]?.getD [])).toList)) = true := by assumption
          rw [bt_toList, bt_toList] at hne
          go_ret
          refine ⟨?_, hbl.drew⟩
          rw [eqB_false (fun e => by subst e; simp at hne)]; rfl
        · have hne : (!((bt (xs[k]?.getD [])).toList == (bt (ys[k]?.getD [])).toList)) = false := by assumption
          rw [bt_toList, bt_toList] at hne
          go_roundw
          case rel => exact ⟨k + 1, by omega, by go_num, take_same (by rw [LX.out]; exact hlt) (by rw [LY.out]; exact hlt) HT.out (by simpa using hne), hbl.drew, HH.out⟩
          case measure => simp only [intOf]; omega
      · have hkn : k = n := by omega
        have hq := HT.out
        rw [List.take_of_length_le (by rw [LX.out]; omega), List.take_of_length_le (by rw [LY.out]; omega)] at hq
        clear hkn
        have HQ : Hid (xs = ys) := hq
        clear hq
        go_wp2
        go_ret
        exact ⟨by rw [eqB_true HQ.out]; rfl, hbl⟩
  · have hne : xs ≠ ys := by
      rintro rfl
      exact hnm (LX.out.symm.trans LY.out)
    have HN : Hid (xs ≠ ys) := hne
    clear hne
    go_enter Try.func10, Try.ntmps10
    go_wp2
    go_ret
    exact ⟨by rw [eqB_false HN.out]; rfl, Below.refl _ _⟩
end Go.Proofs.Ytoffibcplbfokaa
