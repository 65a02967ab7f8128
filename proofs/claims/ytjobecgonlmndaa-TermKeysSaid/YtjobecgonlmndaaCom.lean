/-
  How many bytes two texts have in common, as the functions tell it: no condition beyond lengths that fit an int.
-/
import Derived.Test.YtjobecgonlmndaaStr
import Derived.Test.YtjobecgonlmndaaShelf
import Derived.WalkKit
import Derived.BigRegion
import Derived.LoopTactic
import Derived.Laws.Strings
import Derived.Laws.Concat
import Derived.Laws.Small
import Derived.Laws.Cover1
import Derived.Laws.Slices
namespace Go.Proofs.Ytjobecgonlmndaa
open Go.RowKit Go.WideShapes Go.ChangeShapes
set_option linter.all false
/-- With how many bytes two texts begin alike. -/
def com : List UInt8 → List UInt8 → Nat
  | a :: x, b :: y => if a = b then com x y + 1 else 0
  | _, _ => 0
theorem com_stop : ∀ (k : Nat) (x y : List UInt8), k ≤ x.length → k ≤ y.length → x.take k = y.take k → (x[k]? = none ∨ y[k]? = none ∨ x[k]? ≠ y[k]?) → com x y = k
  | 0, x, y, _, _, _, hs => by
    cases x with
    | nil => cases y <;> rfl
    | cons a x => cases y with
      | nil => rfl
      | cons b y =>
        have : a ≠ b := by simpa using hs
        simp [com, this]
  | k + 1, [], y, hx, _, _, _ => by simp at hx
  | k + 1, a :: x, [], _, hy, _, _ => by simp at hy
  | k + 1, a :: x, b :: y, hx, hy, h, hs => by
    simp only [List.take_succ_cons, List.cons.injEq] at h
    simp only [List.getElem?_cons_succ] at hs
    rw [com, if_pos h.1, com_stop k x y (by simpa using hx) (by simpa using hy) h.2 hs]
def comB (s t : ByteArray) : Nat := com s.data.toList t.data.toList
theorem get_list? (s : ByteArray) (k : Nat) (h : k < s.size) : s.data.toList[k]? = some s[k] := by
  rw [List.getElem?_eq_getElem (by rw [len_list]; exact h), get_list s k h]
theorem comB_end (s t : ByteArray) (k : Nat) (hk : k ≤ s.size) (hk' : k ≤ t.size) (hs : k = s.size ∨ k = t.size) (h : s.data.toList.take k = t.data.toList.take k) : comB s t = k := by
  refine com_stop k _ _ (by rw [len_list]; exact hk) (by rw [len_list]; exact hk') h ?_
  rcases hs with hs | hs
  · left; exact List.getElem?_eq_none (by rw [len_list]; omega)
  · right; left; exact List.getElem?_eq_none (by rw [len_list]; omega)
theorem comB_stop (s t : ByteArray) (k : Nat) (hk : k < s.size) (hk' : k < t.size) (h : s.data.toList.take k = t.data.toList.take k) (hs : s[k] ≠ t[k]) : comB s t = k := by
  refine com_stop k _ _ (by rw [len_list]; omega) (by rw [len_list]; omega) h (.inr (.inr ?_))
  rw [get_list? s k hk, get_list? t k hk']
  simpa using hs
theorem take_next (s t : ByteArray) (k : Nat) (hk : k < s.size) (hk' : k < t.size) (h : s.data.toList.take k = t.data.toList.take k) (hs : s[k] = t[k]) : s.data.toList.take (k + 1) = t.data.toList.take (k + 1) := by
  rw [List.take_add_one, List.take_add_one, h, get_list? s k hk, get_list? t k hk', hs]
@[go_sem ↓] theorem min_hi {P : Program} {w : World} (ts : Array TypeId) (t : TypeId) (n m : Int) (h : m < n) : (Builtin.min_ ts t #[.int .i64 n, .int .i64 m]).run P w = .ok (.int .i64 m) w := by
  rw [run_min_int2, if_pos h]
@[go_sem ↓] theorem min_lo {P : Program} {w : World} (ts : Array TypeId) (t : TypeId) (n m : Int) (h : ¬ m < n) : (Builtin.min_ ts t #[.int .i64 n, .int .i64 m]).run P w = .ok (.int .i64 n) w := by
  rw [run_min_int2, if_neg h]
theorem u8_ne {a b : UInt8} (h : (a.toNat : Int) ≠ b.toNat) : a ≠ b := fun e => h (by rw [e])
theorem u8_eq {a b : UInt8} (h : (a.toNat : Int) = b.toNat) : a = b := UInt8.toNat_inj.1 (by omega)
theorem u8_neb {a b : UInt8} : ((a.toNat : Int) != b.toNat) = (a != b) := by
  by_cases h : a = b
  · subst h; simp
  · have h1 : (a.toNat : Int) ≠ b.toNat := fun e => h (UInt8.toNat_inj.1 (by omega))
    have h2 : (a != b) = true := by simpa using h
    rw [h2]; simpa using h1
theorem u8_eqb {a b : UInt8} : ((a.toNat : Int) == b.toNat) = (a == b) := by
  have := @u8_neb a b
  simp only [bne] at this
  simpa using this
set_option maxHeartbeats 1600000 in
theorem common_any (s t : ByteArray) (h9 : s.size ≤ 9223372036854775807) (h8 : t.size ≤ 9223372036854775807) (w : World) : Calls Try.prog 13 #[.string s, .string t] w fun e w' => e = .returned (.int .i64 (comB s t)) ∧ Below w.heap.size w w' := by
  go_enter Try.func13, Try.ntmps13
  by_cases hc : (t.size : Int) < s.size
  · go_wp2
    go_loopw [4, 6, 13] (fun r x i wr => ∃ k : Nat, k ≤ t.size ∧ i = .int .i64 k ∧ s.data.toList.take k = t.data.toList.take k ∧ Below w.heap.size w wr) (fun _ _ i _ => t.size - (intOf i).toNat)
    case atStart => exact ⟨0, Nat.zero_le _, rfl, rfl, Below.refl _ _⟩
    case round =>
      obtain ⟨k, hk, rfl, htk, hbl⟩ := hrel
      by_cases hlt : k < t.size
      · have hs : k < s.size := by omega
        go_wp2
        go_region
        all_goals (try go_wp2)
        · have hne : (((s[k]'(by omega)).toNat : Int) != (t[k]'(by omega)).toNat) = true := by assumption
          rw [u8_neb] at hne
          have hq := comB_stop s t k (by omega) (by omega) htk (by simpa using hne)
          go_ret; exact ⟨by rw [hq]; rfl, hbl.drew⟩
        · have hne : (((s[k]'(by omega)).toNat : Int) != (t[k]'(by omega)).toNat) = false := by assumption
          rw [u8_neb] at hne
          go_roundw
          case rel => exact ⟨k + 1, by omega, by go_num, take_next s t k (by omega) (by omega) htk (by simpa using hne), hbl.drew⟩
          case measure => simp only [intOf]; omega
      · have hk' : k = t.size := by omega
        have hq := comB_end s t k (by omega) (by omega) (by omega) htk
        go_wp2
        go_ret; exact ⟨by rw [hq, hk']; rfl, hbl⟩
  · go_wp2
    go_loopw [4, 6, 13] (fun r x i wr => ∃ k : Nat, k ≤ s.size ∧ i = .int .i64 k ∧ s.data.toList.take k = t.data.toList.take k ∧ Below w.heap.size w wr) (fun _ _ i _ => s.size - (intOf i).toNat)
    case atStart => exact ⟨0, Nat.zero_le _, rfl, rfl, Below.refl _ _⟩
    case round =>
      obtain ⟨k, hk, rfl, htk, hbl⟩ := hrel
      by_cases hlt : k < s.size
      · have hs : k < t.size := by omega
        go_wp2
        go_region
        all_goals (try go_wp2)
        · have hne : (((s[k]'(by omega)).toNat : Int) != (t[k]'(by omega)).toNat) = true := by assumption
          rw [u8_neb] at hne
          have hq := comB_stop s t k (by omega) (by omega) htk (by simpa using hne)
          go_ret; exact ⟨by rw [hq]; rfl, hbl.drew⟩
        · have hne : (((s[k]'(by omega)).toNat : Int) != (t[k]'(by omega)).toNat) = false := by assumption
          rw [u8_neb] at hne
          go_roundw
          case rel => exact ⟨k + 1, by omega, by go_num, take_next s t k (by omega) (by omega) htk (by simpa using hne), hbl.drew⟩
          case measure => simp only [intOf]; omega
      · have hk' : k = s.size := by omega
        have hq := comB_end s t k (by omega) (by omega) (by omega) htk
        go_wp2
        go_ret; exact ⟨by rw [hq, hk']; rfl, hbl⟩
set_option maxHeartbeats 1600000 in
theorem rcommon_any (s t : ByteArray) (h9 : s.size ≤ 9223372036854775807) (h8 : t.size ≤ 9223372036854775807) (w : World) : Calls Try.prog 14 #[.string s, .string t] w fun e w' => e = .returned (.int .i64 (comB s t)) ∧ Below w.heap.size w w' := by
  go_enter Try.func14, Try.ntmps14
  go_wp2
  go_loopw [5] (fun i wr => ∃ k : Nat, k ≤ s.size ∧ k ≤ t.size ∧ i = .int .i64 k ∧ s.data.toList.take k = t.data.toList.take k ∧ Below w.heap.size w wr) (fun i _ => s.size - (intOf i).toNat)
  case atStart => exact ⟨0, Nat.zero_le _, Nat.zero_le _, rfl, rfl, Below.refl _ _⟩
  case round =>
    obtain ⟨k, hk, hkt, rfl, htk, hbl⟩ := hrel
    by_cases hs : k < s.size
    · by_cases ht : k < t.size
      · go_wp2
        go_region
        all_goals (try go_wp2)
        · have hne : (((s[k]'(by omega)).toNat : Int) == (t[k]'(by omega)).toNat) = true := by assumption
          rw [u8_eqb] at hne
          go_roundw
          case rel => exact ⟨k + 1, by omega, by omega, by go_num, take_next s t k (by omega) (by omega) htk (by simpa using hne), hbl.drew⟩
          case measure => simp only [intOf]; omega
        · have hne : (((s[k]'(by omega)).toNat : Int) == (t[k]'(by omega)).toNat) = false := by assumption
          rw [u8_eqb] at hne
          have hq := comB_stop s t k (by omega) (by omega) htk (by simpa using hne)
          go_ret; exact ⟨by rw [hq]; rfl, hbl.drew⟩
      · have hq := comB_end s t k (by omega) (by omega) (by omega) htk
        go_wp2
        go_region
        all_goals (try go_wp2)
        go_ret; exact ⟨by rw [hq]; rfl, hbl.drew⟩
    · have hq := comB_end s t k (by omega) (by omega) (by omega) htk
      go_wp2
      go_region
      all_goals (try go_wp2)
      go_ret; exact ⟨by rw [hq]; rfl, hbl.drew⟩
theorem comB_comm (s t : ByteArray) : comB s t = comB t s := by
  have : ∀ x y : List UInt8, com x y = com y x := by
    intro x
    induction x with
    | nil => intro y; cases y <;> rfl
    | cons a x ih => intro y; cases y with
      | nil => rfl
      | cons b y =>
        simp only [com]
        by_cases h : a = b
        · subst h; simp [ih]
        · have : ¬ b = a := fun e => h e.symm
          simp [h, this]
  exact this _ _
theorem com_le : ∀ x y : List UInt8, com x y ≤ x.length
  | [], y => by cases y <;> exact Nat.zero_le _
  | a :: x, [] => Nat.zero_le _
  | a :: x, b :: y => by
    simp only [com]
    split
    · have := com_le x y; simp only [List.length_cons]; omega
    · exact Nat.zero_le _
theorem com_take : ∀ x y : List UInt8, x.take (com x y) = y.take (com x y)
  | [], y => by cases y <;> rfl
  | a :: x, [] => rfl
  | a :: x, b :: y => by
    simp only [com]
    split
    · rename_i h; subst h; simp [com_take x y]
    · rfl
theorem com_ne : ∀ x y : List UInt8, com x y < x.length → com x y < y.length → x[com x y]? ≠ y[com x y]?
  | [], y, h, _ => by simp at h
  | a :: x, [], _, h => by simp at h
  | a :: x, b :: y, h1, h2 => by
    simp only [com] at h1 h2 ⊢
    split
    · rename_i h; subst h; rw [if_pos rfl] at h1 h2
      simpa using com_ne x y (by simpa using h1) (by simpa using h2)
    · rename_i h; simpa using h
theorem com_append : ∀ x y : List UInt8, com x (x ++ y) = x.length
  | [], y => by cases y <;> rfl
  | a :: x, y => by simp [com, com_append x y]
end Go.Proofs.Ytjobecgonlmndaa
