/-
  What the functions on terms answer at whatever text: no condition beyond a length that fits an int.
-/
import Derived.Test.YtbgokkodaglklaaGreatShelf
import Derived.WalkKit
import Derived.BigRegion
import Derived.LoopTactic
import Derived.Laws.Strings
import Derived.Laws.Concat
import Derived.Laws.Small
import Derived.Laws.Cover1
import Derived.Laws.Slices
namespace Go.Proofs.YtbgokkodaglklaaGreat
open Go.RowKit Go.WideShapes Go.ChangeShapes
set_option linter.all false
def nz (l : List UInt8) : Bool := l.all (· != 0)
def rightL (l : List UInt8) : Bool := decide (1 ≤ l.length) && decide (l.length ≤ 12) && nz l
theorem indexByte_nz : ∀ l : List UInt8, decide (0 ≤ Lib.indexByte l 0) = !nz l
  | [] => rfl
  | b :: l => by
    have ih := indexByte_nz l
    unfold Lib.indexByte
    by_cases hb : b = 0
    · subst hb; simp [nz]
    · have h1 : (b == 0) = false := by simpa using hb
      have hge := Lib.indexByte_ge l 0
      rw [h1]
      simp only [Bool.false_eq_true, if_false]
      have : nz (b :: l) = nz l := by simp [nz, hb]
      rw [this, ← ih]
      by_cases hl : Lib.indexByte l 0 = -1
      · simp [hl]
      · have : (Lib.indexByte l 0 == -1) = false := by simpa using hl
        rw [this]
        simp only [Bool.false_eq_true, if_false, decide_eq_decide]
        omega
theorem len_list (s : ByteArray) : s.data.toList.length = s.size := rfl
theorem get_list (s : ByteArray) (k : Nat) (h : k < s.size) : s.data.toList[k]'(by rw [len_list]; exact h) = s[k] := rfl
theorem right_any (s : ByteArray) (w : World) : Calls Tryz.prog 11 #[.string s] w fun e w' => e = .returned (.bool (rightL s.data.toList)) ∧ w' = w := by
  go_enter Tryz.func11, Tryz.ntmps11
  go_wp2_with (first
    | (go_at_call 31; refine (strings_Contains_one _ _ _).mono ?_; rintro e w' ⟨rfl, rfl⟩)
    | go_in)
  · have h1 : (1 : Int) ≤ s.size := by assumption
    have h2 : (s.size : Int) ≤ 12 := by assumption
    go_ret; refine ⟨?_, rfl⟩
    simp only [rightL, len_list, indexByte_nz, Bool.not_not]
    rw [decide_eq_true (by omega : 1 ≤ s.size), decide_eq_true (by omega : s.size ≤ 12)]; rfl
  · have h2 : (12 : Int) < s.size := by assumption
    go_ret; refine ⟨?_, rfl⟩
    simp only [rightL, len_list]
    rw [decide_eq_false (by omega : ¬ s.size ≤ 12)]; simp
  · have h2 : (s.size : Int) < 1 := by assumption
    go_ret; refine ⟨?_, rfl⟩
    simp only [rightL, len_list]
    rw [decide_eq_false (by omega : ¬ 1 ≤ s.size)]; simp
theorem nz_take (s : ByteArray) (k : Nat) (h : k < s.size) : nz (s.data.toList.take (k + 1)) = (nz (s.data.toList.take k) && s[k] != 0) := by
  rw [List.take_add_one, List.getElem?_eq_getElem (by rw [len_list]; exact h), get_list s k h]
  simp [nz, List.all_append]
theorem nz_all (s : ByteArray) (k : Nat) (h : k < s.size) (h0 : s[k] = 0) : nz s.data.toList = false := by
  have : s[k] ∈ s.data.toList := by rw [← get_list s k h]; exact List.getElem_mem _
  simp only [nz, List.all_eq_false]
  exact ⟨_, this, by simp [h0]⟩
theorem u8_nat0 {a : UInt8} : ((a.toNat : Int) == 0) = (a == 0) := by
  by_cases h : a = 0
  · subst h; rfl
  · have h1 : a.toNat ≠ 0 := fun e => h (UInt8.toNat_inj.1 e)
    have h2 : (a == 0) = false := by simpa using h
    rw [h2]; simpa using h1
theorem rightL_len {s : ByteArray} (h : rightL s.data.toList = true) : s.size ≤ 12 := by
  simp only [rightL, len_list, Bool.and_eq_true, decide_eq_true_eq] at h; exact h.1.2
/-- The key of a text. -/
def keyB (s : ByteArray) : ByteArray := if rightL s.data.toList = true then s ++ ⟨#[0]⟩ else ⟨#[]⟩
theorem key_any (s : ByteArray) (w : World) : Calls Tryz.prog 12 #[.string s] w fun e w' => e = .returned (.string (keyB s)) ∧ w' = w := by
  go_enter Tryz.func12, Tryz.ntmps12
  have hr := right_any s
  cases hb : rightL s.data.toList with
  | true =>
    rw [hb] at hr
    have hlt : ¬ 9223372036854775807 < s.size + 1 := by have := rightL_len hb; omega
    go_wp2_with (first
      | (go_at_call 11; refine (hr _).mono ?_; rintro e w' ⟨rfl, rfl⟩)
      | go_in)
    go_ret; exact ⟨by simp [keyB, hb], rfl⟩
  | false =>
    rw [hb] at hr
    go_wp2_with (first
      | (go_at_call 11; refine (hr _).mono ?_; rintro e w' ⟨rfl, rfl⟩)
      | go_in)
    go_ret; exact ⟨by simp [keyB, hb], rfl⟩
end Go.Proofs.YtbgokkodaglklaaGreat
