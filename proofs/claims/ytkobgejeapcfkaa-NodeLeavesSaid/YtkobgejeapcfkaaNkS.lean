/-
  term's Of and Right at any text; condition: a length that fits an int.
-/
import Derived.Test.YtkobgejeapcfkaaShelf
import Derived.WalkKit
import Derived.BigRegion
import Derived.LoopTactic
import Derived.Laws.Strings
import Derived.Laws.Concat
import Derived.Laws.Small
import Derived.Laws.Cover1
import Derived.Laws.Slices
namespace Go.Proofs.Ytkobgejeapcfkaa
open Go.RowKit Go.WideShapes Go.ChangeShapes
set_option linter.all false
def nz (l : List UInt8) : Bool := l.all (· != 0)
def rightL (l : List UInt8) : Bool := decide (1 ≤ l.length) && decide (l.length ≤ 12) && nz l
theorem indexByte_nz : ∀ l : List UInt8, decide (0 ≤ Lib.indexByte l 0) = !nz l
  | [] => rfl
  | b :: l => by
    have ih := indexByte_nz l
    unfold Lib.indexByte
    by_cases hb : b = 0
    · subst hb; simp [nz]
    · have h1 : (b == 0) = false := by simpa using hb
      have hge := Lib.indexByte_ge l 0
      rw [h1]
      simp only [Bool.false_eq_true, if_false]
      have : nz (b :: l) = nz l := by simp [nz, hb]
      rw [this, ← ih]
      by_cases hl : Lib.indexByte l 0 = -1
      · simp [hl]
      · have : (Lib.indexByte l 0 == -1) = false := by simpa using hl
        rw [this]
        simp only [Bool.false_eq_true, if_false, decide_eq_decide]
        omega
theorem len_list (s : ByteArray) : s.data.toList.length = s.size := rfl
theorem get_list (s : ByteArray) (k : Nat) (h : k < s.size) : s.data.toList[k]'(by rw [len_list]; exact h) = s[k] := rfl
theorem right_any (s : ByteArray) (w : World) : Calls Try.prog 30 #[.string s] w fun e w' => e = .returned (.bool (rightL s.data.toList)) ∧ w' = w := by
  go_enter Try.func30, Try.ntmps30
  go_wp2_with (first
    | (go_at_call 49; refine (strings_Contains_one _ _ _).mono ?_; rintro e w' ⟨rfl, rfl⟩)
    | go_in)
  · have h1 : (1 : Int) ≤ s.size := by assumption
    have h2 : (s.size : Int) ≤ 12 := by assumption
    go_ret; refine ⟨?_, rfl⟩
    simp only [rightL, len_list, indexByte_nz, Bool.not_not]
    rw [decide_eq_true (by omega : 1 ≤ s.size), decide_eq_true (by omega : s.size ≤ 12)]; rfl
  · have h2 : (12 : Int) < s.size := by assumption
    go_ret; refine ⟨?_, rfl⟩
    simp only [rightL, len_list]
    rw [decide_eq_false (by omega : ¬ s.size ≤ 12)]; simp
  · have h2 : (s.size : Int) < 1 := by assumption
    go_ret; refine ⟨?_, rfl⟩
    simp only [rightL, len_list]
    rw [decide_eq_false (by omega : ¬ 1 ≤ s.size)]; simp
/-- Whether a text ends with a nought; the text without it; whether it is a key. -/
def endB (s : ByteArray) : Bool := Lib.hasSuffix s.data.toList [0]
def cutB (s : ByteArray) : ByteArray := ⟨(Lib.trimSuffix s.data.toList [0]).toArray⟩
def ofOk (s : ByteArray) : Bool := endB s && rightL (cutB s).data.toList
def ofS (s : ByteArray) : ByteArray := if ofOk s = true then cutB s else ⟨#[]⟩
theorem of_any (s : ByteArray) (h9 : s.size ≤ 9223372036854775807) (w : World) : Calls Try.prog 14 #[.string s] w fun e w' => e = .returned (.tuple #[.string (ofS s), .bool (ofOk s)]) ∧ w' = w := by
  go_enter Try.func14, Try.ntmps14
  have hc := fun w => strings_CutSuffix s ⟨#[0]⟩ w h9
  have hr := right_any (cutB s)
  have hcut : ({ data := (Lib.trimSuffix s.data.toList [0]).toArray } : ByteArray) = cutB s := rfl
  have hend : Lib.hasSuffix s.data.toList [0] = endB s := rfl
  simp only [hcut, hend] at hc
  cases he : endB s with
  | false =>
    have ho : ofOk s = false := by simp [ofOk, he]
    rw [he] at hc
    go_wp2_with (first
      | (go_at_call 29; refine (hc _).mono ?_; rintro e w' ⟨rfl, rfl⟩)
      | go_in)
    go_ret2; exact ⟨by simp [ofS, ho], rfl⟩
  | true =>
    rw [he] at hc
    cases hb : rightL (cutB s).data.toList with
    | true =>
      have ho : ofOk s = true := by simp [ofOk, he, hb]
      rw [hb] at hr
      go_wp2_with (first
        | (go_at_call 29; refine (hc _).mono ?_; rintro e w' ⟨rfl, rfl⟩)
        | (go_at_call 30; refine (hr _).mono ?_; rintro e w' ⟨rfl, rfl⟩)
        | go_in)
      go_ret2; exact ⟨by simp [ofS, ho], rfl⟩
    | false =>
      have ho : ofOk s = false := by simp [ofOk, he, hb]
      rw [hb] at hr
      go_wp2_with (first
        | (go_at_call 29; refine (hc _).mono ?_; rintro e w' ⟨rfl, rfl⟩)
        | (go_at_call 30; refine (hr _).mono ?_; rintro e w' ⟨rfl, rfl⟩)
        | go_in)
      go_ret2; exact ⟨by simp [ofS, ho], rfl⟩
theorem suff0 : ∀ (l : List UInt8) (b : UInt8) (n : Nat), l.length = n + 1 → l[n]? = some b → [0].isSuffixOf l = (b == 0) := by
  intro l b n hl hg
  rcases List.eq_nil_or_concat l with rfl | ⟨xs, x, rfl⟩
  · simp at hl
  · have hn : n = xs.length := by simp at hl; omega
    subst hn
    simp at hg
    subst hg
    simp [List.isSuffixOf, List.isPrefixOf]
    by_cases h : x = 0
    · subst h; rfl
    · have h1 : (x == 0) = false := by simpa using h
      have h2 : ((0 : UInt8) == x) = false := by simpa using fun e : 0 = x => h e.symm
      rw [h1, h2]
theorem endB_eq (s : ByteArray) (h : 0 < s.size) : endB s = (s[s.size - 1] == 0) :=
  suff0 s.data.toList _ (s.size - 1) (by rw [len_list]; omega) (by rw [List.getElem?_eq_getElem (by rw [len_list]; omega), get_list s _ (by omega)])
theorem endB_nil (s : ByteArray) (h : s.size = 0) : endB s = false := by
  have hl := len_list s
  unfold endB Lib.hasSuffix
  have : s.data.toList = [] := List.eq_nil_of_length_eq_zero (by omega)
  rw [this]; rfl
theorem cutB_eq (s : ByteArray) (h : endB s = true) : cutB s = s.extract 0 (s.size - 1) := by
  have hl := len_list s
  unfold cutB Lib.trimSuffix
  rw [show Lib.hasSuffix s.data.toList [0] = true from h, if_pos rfl]
  apply ByteArray.ext
  apply Array.ext'
  simp [hl, List.dropLast_eq_take, ByteArray.data_extract]
theorem ofOk_short (s : ByteArray) (h : s.size < 2) : ofOk s = false := by
  unfold ofOk
  by_cases h0 : s.size = 0
  · rw [endB_nil s h0]; rfl
  · cases he : endB s with
    | false => rfl
    | true =>
      rw [cutB_eq s he, Bool.true_and]
      unfold rightL
      rw [len_list, decide_eq_false (by simp; omega)]; rfl
end Go.Proofs.Ytkobgejeapcfkaa
