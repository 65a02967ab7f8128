/-
  What the functions on terms answer at whatever text: no condition beyond a length that fits an int.
-/
import Derived.Test.YtjobecgonlmndaaShelf
import Derived.WalkKit
import Derived.BigRegion
import Derived.LoopTactic
import Derived.Laws.Strings
import Derived.Laws.Concat
import Derived.Laws.Small
import Derived.Laws.Cover1
import Derived.Laws.Slices
namespace Go.Proofs.Ytjobecgonlmndaa
open Go.RowKit Go.WideShapes Go.ChangeShapes
set_option linter.all false
def nz (l : List UInt8) : Bool := l.all (· != 0)
def rightL (l : List UInt8) : Bool := decide (1 ≤ l.length) && decide (l.length ≤ 12) && nz l
theorem indexByte_nz : ∀ l : List UInt8, decide (0 ≤ Lib.indexByte l 0) = !nz l
  | [] => rfl
  | b :: l => by
    have ih := indexByte_nz l
    unfold Lib.indexByte
    by_cases hb : b = 0
    · subst hb; simp [nz]
    · have h1 : (b == 0) = false := by simpa using hb
      have hge := Lib.indexByte_ge l 0
      rw [h1]
      simp only [Bool.false_eq_true, if_false]
      have : nz (b :: l) = nz l := by simp [nz, hb]
      rw [this, ← ih]
      by_cases hl : Lib.indexByte l 0 = -1
      · simp [hl]
      · have : (Lib.indexByte l 0 == -1) = false := by simpa using hl
        rw [this]
        simp only [Bool.false_eq_true, if_false, decide_eq_decide]
        omega
theorem len_list (s : ByteArray) : s.data.toList.length = s.size := rfl
theorem get_list (s : ByteArray) (k : Nat) (h : k < s.size) : s.data.toList[k]'(by rw [len_list]; exact h) = s[k] := rfl
theorem right_any (s : ByteArray) (w : World) : Calls Try.prog 9 #[.string s] w fun e w' => e = .returned (.bool (rightL s.data.toList)) ∧ w' = w := by
  go_enter Try.func9, Try.ntmps9
  go_wp2_with (first
    | (go_at_call 19; refine (strings_Contains_one _ _ _).mono ?_; rintro e w' ⟨rfl, rfl⟩)
    | go_in)
  · have h1 : (1 : Int) ≤ s.size := by assumption
    have h2 : (s.size : Int) ≤ 12 := by assumption
    go_ret; refine ⟨?_, rfl⟩
    simp only [rightL, len_list, indexByte_nz, Bool.not_not]
    rw [decide_eq_true (by omega : 1 ≤ s.size), decide_eq_true (by omega : s.size ≤ 12)]; rfl
  · have h2 : (12 : Int) < s.size := by assumption
    go_ret; refine ⟨?_, rfl⟩
    simp only [rightL, len_list]
    rw [decide_eq_false (by omega : ¬ s.size ≤ 12)]; simp
  · have h2 : (s.size : Int) < 1 := by assumption
    go_ret; refine ⟨?_, rfl⟩
    simp only [rightL, len_list]
    rw [decide_eq_false (by omega : ¬ 1 ≤ s.size)]; simp
theorem nz_take (s : ByteArray) (k : Nat) (h : k < s.size) : nz (s.data.toList.take (k + 1)) = (nz (s.data.toList.take k) && s[k] != 0) := by
  rw [List.take_add_one, List.getElem?_eq_getElem (by rw [len_list]; exact h), get_list s k h]
  simp [nz, List.all_append]
theorem nz_all (s : ByteArray) (k : Nat) (h : k < s.size) (h0 : s[k] = 0) : nz s.data.toList = false := by
  have : s[k] ∈ s.data.toList := by rw [← get_list s k h]; exact List.getElem_mem _
  simp only [nz, List.all_eq_false]
  exact ⟨_, this, by simp [h0]⟩
theorem u8_nat0 {a : UInt8} : ((a.toNat : Int) == 0) = (a == 0) := by
  by_cases h : a = 0
  · subst h; rfl
  · have h1 : a.toNat ≠ 0 := fun e => h (UInt8.toNat_inj.1 e)
    have h2 : (a == 0) = false := by simpa using h
    rw [h2]; simpa using h1
theorem rightL_hit (s : ByteArray) (k : Nat) (h : k < s.size) (h0 : s[k] = 0) : rightL s.data.toList = false := by
  rw [rightL, nz_all s k h h0]; cases (decide (1 ≤ s.data.toList.length)) <;> cases (decide (s.data.toList.length ≤ 12)) <;> rfl
theorem rightL_len {s : ByteArray} (h : rightL s.data.toList = true) : s.size ≤ 12 := by
  simp only [rightL, len_list, Bool.and_eq_true, decide_eq_true_eq] at h; exact h.1.2
theorem rightTerm_any (s : ByteArray) (h9 : s.size ≤ 9223372036854775807) (w : World) : Calls Try.prog 10 #[.string s] w fun e w' => e = .returned (.bool (rightL s.data.toList)) ∧ w' = w := by
  go_enter Try.func10, Try.ntmps10
  go_wp2
  go_loop [3] (fun i => ∃ k : Nat, k ≤ s.size ∧ i = .int .i64 k ∧ nz (s.data.toList.take k) = true) (fun i => s.size - (intOf i).toNat)
  case atStart => exact ⟨0, Nat.zero_le _, rfl, rfl⟩
  case round =>
    obtain ⟨k, hk, rfl, hn⟩ := hrel
    go_wp2
    · have hl : k < s.size := by assumption
      have h0 : (((s[k]'hl).toNat : Int) == 0) = true := by assumption
      rw [u8_nat0] at h0
      go_ret; refine ⟨?_, rfl⟩
      rw [rightL_hit s k hl (by simpa using h0)]; rfl
    · have hl : k < s.size := by assumption
      have h0 : (((s[k]'hl).toNat : Int) == 0) = false := by assumption
      rw [u8_nat0] at h0
      go_round
      case rel =>
        refine ⟨k + 1, by omega, by go_num, ?_⟩
        rw [nz_take s k hl, hn, bne, h0]; rfl
      case measure => simp only [intOf]; omega
    · have h1 : (1 : Int) ≤ s.size := by assumption
      have hl : ¬ k < s.size := by assumption
      have hk' : k = s.size := by omega
      subst hk'
      rw [List.take_of_length_le (by rw [len_list]; omega)] at hn
      go_ret; refine ⟨?_, rfl⟩
      show Ending.returned (Value.bool (decide ((s.size : Int) ≤ 12))) = _
      simp only [rightL, len_list, hn, Bool.and_true]
      rw [decide_eq_true (by omega : 1 ≤ s.size), Bool.true_and]
      congr 2
      exact decide_eq_decide.2 (by omega)
    · have h1 : (s.size : Int) < 1 := by assumption
      go_ret; refine ⟨?_, rfl⟩
      simp only [rightL, len_list]
      rw [decide_eq_false (by omega : ¬ 1 ≤ s.size), Bool.false_and]; rfl
/-- The key of a text. -/
def keyB (s : ByteArray) : ByteArray := if rightL s.data.toList = true then s ++ ⟨#[0]⟩ else ⟨#[]⟩
theorem key_any (s : ByteArray) (w : World) : Calls Try.prog 11 #[.string s] w fun e w' => e = .returned (.string (keyB s)) ∧ w' = w := by
  go_enter Try.func11, Try.ntmps11
  have hr := right_any s
  cases hb : rightL s.data.toList with
  | true =>
    rw [hb] at hr
    have hlt : ¬ 9223372036854775807 < s.size + 1 := by have := rightL_len hb; omega
    go_wp2_with (first
      | (go_at_call 9; refine (hr _).mono ?_; rintro e w' ⟨rfl, rfl⟩)
      | go_in)
    go_ret; exact ⟨by simp [keyB, hb], rfl⟩
  | false =>
    rw [hb] at hr
    go_wp2_with (first
      | (go_at_call 9; refine (hr _).mono ?_; rintro e w' ⟨rfl, rfl⟩)
      | go_in)
    go_ret; exact ⟨by simp [keyB, hb], rfl⟩
theorem rkey_any (s : ByteArray) (h9 : s.size ≤ 9223372036854775807) (w : World) : Calls Try.prog 12 #[.string s] w fun e w' => e = .returned (.string (keyB s)) ∧ w' = w := by
  go_enter Try.func12, Try.ntmps12
  have hr := rightTerm_any s h9
  cases hb : rightL s.data.toList with
  | true =>
    rw [hb] at hr
    have hlt : ¬ 9223372036854775807 < s.size + 1 := by have := rightL_len hb; omega
    go_wp2_with (first
      | (go_at_call 10; refine (hr _).mono ?_; rintro e w' ⟨rfl, rfl⟩)
      | go_in)
    go_ret; exact ⟨by simp [keyB, hb], rfl⟩
  | false =>
    rw [hb] at hr
    go_wp2_with (first
      | (go_at_call 10; refine (hr _).mono ?_; rintro e w' ⟨rfl, rfl⟩)
      | go_in)
    go_ret; exact ⟨by simp [keyB, hb], rfl⟩
theorem next_any (s : ByteArray) (hlt : ¬ 9223372036854775807 < s.size + 1) (w : World) : Calls Try.prog 15 #[.string s] w fun e w' => e = .returned (.string (s ++ ⟨#[0]⟩)) ∧ w' = w := by
  go_enter Try.func15, Try.ntmps15
  go_wp2
  go_ret; exact ⟨rfl, rfl⟩
/-- Whether a text ends with a nought; the text without it; whether it is a key. -/
def endB (s : ByteArray) : Bool := Lib.hasSuffix s.data.toList [0]
def cutB (s : ByteArray) : ByteArray := ⟨(Lib.trimSuffix s.data.toList [0]).toArray⟩
def ofOk (s : ByteArray) : Bool := endB s && rightL (cutB s).data.toList
def ofS (s : ByteArray) : ByteArray := if ofOk s = true then cutB s else ⟨#[]⟩
theorem of_any (s : ByteArray) (h9 : s.size ≤ 9223372036854775807) (w : World) : Calls Try.prog 7 #[.string s] w fun e w' => e = .returned (.tuple #[.string (ofS s), .bool (ofOk s)]) ∧ w' = w := by
  go_enter Try.func7, Try.ntmps7
  have hc := fun w => strings_CutSuffix s ⟨#[0]⟩ w h9
  have hr := right_any (cutB s)
  have hcut : ({ data := (Lib.trimSuffix s.data.toList [0]).toArray } : ByteArray) = cutB s := rfl
  have hend : Lib.hasSuffix s.data.toList [0] = endB s := rfl
  simp only [hcut, hend] at hc
  cases he : endB s with
  | false =>
    have ho : ofOk s = false := by simp [ofOk, he]
    rw [he] at hc
    go_wp2_with (first
      | (go_at_call 18; refine (hc _).mono ?_; rintro e w' ⟨rfl, rfl⟩)
      | go_in)
    go_ret2; exact ⟨by simp [ofS, ho], rfl⟩
  | true =>
    rw [he] at hc
    cases hb : rightL (cutB s).data.toList with
    | true =>
      have ho : ofOk s = true := by simp [ofOk, he, hb]
      rw [hb] at hr
      go_wp2_with (first
        | (go_at_call 18; refine (hc _).mono ?_; rintro e w' ⟨rfl, rfl⟩)
        | (go_at_call 9; refine (hr _).mono ?_; rintro e w' ⟨rfl, rfl⟩)
        | go_in)
      go_ret2; exact ⟨by simp [ofS, ho], rfl⟩
    | false =>
      have ho : ofOk s = false := by simp [ofOk, he, hb]
      rw [hb] at hr
      go_wp2_with (first
        | (go_at_call 18; refine (hc _).mono ?_; rintro e w' ⟨rfl, rfl⟩)
        | (go_at_call 9; refine (hr _).mono ?_; rintro e w' ⟨rfl, rfl⟩)
        | go_in)
      go_ret2; exact ⟨by simp [ofS, ho], rfl⟩
theorem suff0 : ∀ (l : List UInt8) (b : UInt8) (n : Nat), l.length = n + 1 → l[n]? = some b → [0].isSuffixOf l = (b == 0) := by
  intro l b n hl hg
  rcases List.eq_nil_or_concat l with rfl | ⟨xs, x, rfl⟩
  · simp at hl
  · have hn : n = xs.length := by simp at hl; omega
    subst hn
    simp at hg
    subst hg
    simp [List.isSuffixOf, List.isPrefixOf]
    by_cases h : x = 0
    · subst h; rfl
    · have h1 : (x == 0) = false := by simpa using h
      have h2 : ((0 : UInt8) == x) = false := by simpa using fun e : 0 = x => h e.symm
      rw [h1, h2]
theorem endB_eq (s : ByteArray) (h : 0 < s.size) : endB s = (s[s.size - 1] == 0) :=
  suff0 s.data.toList _ (s.size - 1) (by rw [len_list]; omega) (by rw [List.getElem?_eq_getElem (by rw [len_list]; omega), get_list s _ (by omega)])
theorem endB_nil (s : ByteArray) (h : s.size = 0) : endB s = false := by
  have hl := len_list s
  unfold endB Lib.hasSuffix
  have : s.data.toList = [] := List.eq_nil_of_length_eq_zero (by omega)
  rw [this]; rfl
theorem cutB_eq (s : ByteArray) (h : endB s = true) : cutB s = s.extract 0 (s.size - 1) := by
  have hl := len_list s
  unfold cutB Lib.trimSuffix
  rw [show Lib.hasSuffix s.data.toList [0] = true from h, if_pos rfl]
  apply ByteArray.ext
  apply Array.ext'
  simp [hl, List.dropLast_eq_take, ByteArray.data_extract]
theorem ofOk_short (s : ByteArray) (h : s.size < 2) : ofOk s = false := by
  unfold ofOk
  by_cases h0 : s.size = 0
  · rw [endB_nil s h0]; rfl
  · cases he : endB s with
    | false => rfl
    | true =>
      rw [cutB_eq s he, Bool.true_and]
      unfold rightL
      rw [len_list, decide_eq_false (by simp; omega)]; rfl
theorem rterm_any (s : ByteArray) (h9 : s.size ≤ 9223372036854775807) (w : World) : Calls Try.prog 8 #[.string s] w fun e w' => e = .returned (.tuple #[.string (ofS s), .bool (ofOk s)]) ∧ w' = w := by
  go_enter Try.func8, Try.ntmps8
  by_cases h2 : s.size < 2
  · have h3 : (s.size : Int) < 2 := by omega
    have ho := ofOk_short s h2
    go_wp2
    go_ret2; exact ⟨by simp [ofS, ho], rfl⟩
  · have h3 : ¬ (s.size : Int) < 2 := by omega
    have hk : (s.size : Int) - 1 = ((s.size - 1 : Nat) : Int) := by omega
    have hr := rightTerm_any (s.extract 0 (s.size - 1)) (by simp; omega)
    have hlt : s.size - 1 < s.size := by omega
    have hee := endB_eq s (by omega)
    cases hb : rightL (s.extract 0 (s.size - 1)).data.toList
    all_goals rw [hb] at hr
    all_goals go_wp2_with (first
        | (go_at_call 10; refine (hr _).mono ?_; rintro e w' ⟨rfl, rfl⟩)
        | go_in)
    all_goals first
      | (have hz : (s[s.size - 1].toNat) = 0 := by assumption
         have hz' : (s[s.size - 1] == 0) = true := by simpa using UInt8.toNat_inj.1 hz
         rw [hz'] at hee
         have hcq := cutB_eq s hee
         have ho : ofOk s = rightL (s.extract 0 (s.size - 1)).data.toList := by simp [ofOk, hee, hcq]
         rw [hb] at ho
         go_wp2
         go_ret2; exact ⟨by simp [ofS, ho, hcq], rfl⟩)
      | (have hz : ¬ (s[s.size - 1].toNat) = 0 := by assumption
         have hz' : (s[s.size - 1] == 0) = false := by simpa using fun e => hz (UInt8.toNat_inj.2 e)
         rw [hz'] at hee
         have ho : ofOk s = false := by simp [ofOk, hee]
         go_ret2; exact ⟨by simp [ofS, ho], rfl⟩)
end Go.Proofs.Ytjobecgonlmndaa
