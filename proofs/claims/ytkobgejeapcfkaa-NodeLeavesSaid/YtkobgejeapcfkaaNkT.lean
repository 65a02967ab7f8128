/-
  The document's Term and RightTerm at any text; condition: a length that fits an int.
-/
import Derived.Test.YtkobgejeapcfkaaNkS
namespace Go.Proofs.Ytkobgejeapcfkaa
open Go.RowKit Go.WideShapes Go.ChangeShapes
set_option linter.all false
theorem nz_take (s : ByteArray) (k : Nat) (h : k < s.size) : nz (s.data.toList.take (k + 1)) = (nz (s.data.toList.take k) && s[k] != 0) := by
  rw [List.take_add_one, List.getElem?_eq_getElem (by rw [len_list]; exact h), get_list s k h]
  simp [nz, List.all_append]
theorem nz_all (s : ByteArray) (k : Nat) (h : k < s.size) (h0 : s[k] = 0) : nz s.data.toList = false := by
  have : s[k] ∈ s.data.toList := by rw [← get_list s k h]; exact List.getElem_mem _
  simp only [nz, List.all_eq_false]
  exact ⟨_, this, by simp [h0]⟩
theorem u8_nat0 {a : UInt8} : ((a.toNat : Int) == 0) = (a == 0) := by
  by_cases h : a = 0
  · subst h; rfl
  · have h1 : a.toNat ≠ 0 := fun e => h (UInt8.toNat_inj.1 e)
    have h2 : (a == 0) = false := by simpa using h
    rw [h2]; simpa using h1
theorem rightL_hit (s : ByteArray) (k : Nat) (h : k < s.size) (h0 : s[k] = 0) : rightL s.data.toList = false := by
  rw [rightL, nz_all s k h h0]; cases (decide (1 ≤ s.data.toList.length)) <;> cases (decide (s.data.toList.length ≤ 12)) <;> rfl
theorem rightL_len {s : ByteArray} (h : rightL s.data.toList = true) : s.size ≤ 12 := by
  simp only [rightL, len_list, Bool.and_eq_true, decide_eq_true_eq] at h; exact h.1.2
theorem rightTerm_any (s : ByteArray) (h9 : s.size ≤ 9223372036854775807) (w : World) : Calls Try.prog 47 #[.string s] w fun e w' => e = .returned (.bool (rightL s.data.toList)) ∧ w' = w := by
  go_enter Try.func47, Try.ntmps47
  go_wp2
  go_loop [3] (fun i => ∃ k : Nat, k ≤ s.size ∧ i = .int .i64 k ∧ nz (s.data.toList.take k) = true) (fun i => s.size - (intOf i).toNat)
  case atStart => exact ⟨0, Nat.zero_le _, rfl, rfl⟩
  case round =>
    obtain ⟨k, hk, rfl, hn⟩ := hrel
    go_wp2
    · have hl : k < s.size := by assumption
      have h0 : (((s[k]'hl).toNat : Int) == 0) = true := by assumption
      rw [u8_nat0] at h0
      go_ret; refine ⟨?_, rfl⟩
      rw [rightL_hit s k hl (by simpa using h0)]; rfl
    · have hl : k < s.size := by assumption
      have h0 : (((s[k]'hl).toNat : Int) == 0) = false := by assumption
      rw [u8_nat0] at h0
      go_round
      case rel =>
        refine ⟨k + 1, by omega, by go_num, ?_⟩
        rw [nz_take s k hl, hn, bne, h0]; rfl
      case measure => simp only [intOf]; omega
    · have h1 : (1 : Int) ≤ s.size := by assumption
      have hl : ¬ k < s.size := by assumption
      have hk' : k = s.size := by omega
      subst hk'
      rw [List.take_of_length_le (by rw [len_list]; omega)] at hn
      go_ret; refine ⟨?_, rfl⟩
      show Ending.returned (Value.bool (decide ((s.size : Int) ≤ 12))) = _
      simp only [rightL, len_list, hn, Bool.and_true]
      rw [decide_eq_true (by omega : 1 ≤ s.size), Bool.true_and]
      congr 2
      exact decide_eq_decide.2 (by omega)
    · have h1 : (s.size : Int) < 1 := by assumption
      go_ret; refine ⟨?_, rfl⟩
      simp only [rightL, len_list]
      rw [decide_eq_false (by omega : ¬ 1 ≤ s.size), Bool.false_and]; rfl
theorem rterm_any (s : ByteArray) (h9 : s.size ≤ 9223372036854775807) (w : World) : Calls Try.prog 27 #[.string s] w fun e w' => e = .returned (.tuple #[.string (ofS s), .bool (ofOk s)]) ∧ w' = w := by
  go_enter Try.func27, Try.ntmps27
  by_cases h2 : s.size < 2
  · have h3 : (s.size : Int) < 2 := by omega
    have ho := ofOk_short s h2
    go_wp2
    go_ret2; exact ⟨by simp [ofS, ho], rfl⟩
  · have h3 : ¬ (s.size : Int) < 2 := by omega
    have hk : (s.size : Int) - 1 = ((s.size - 1 : Nat) : Int) := by omega
    have hr := rightTerm_any (s.extract 0 (s.size - 1)) (by simp; omega)
    have hlt : s.size - 1 < s.size := by omega
    have hee := endB_eq s (by omega)
    cases hb : rightL (s.extract 0 (s.size - 1)).data.toList
    all_goals rw [hb] at hr
    all_goals go_wp2_with (first
        | (go_at_call 47; refine (hr _).mono ?_; rintro e w' ⟨rfl, rfl⟩)
        | go_in)
    all_goals first
      | (have hz : (s[s.size - 1].toNat) = 0 := by assumption
         have hz' : (s[s.size - 1] == 0) = true := by simpa using UInt8.toNat_inj.1 hz
         rw [hz'] at hee
         have hcq := cutB_eq s hee
         have ho : ofOk s = rightL (s.extract 0 (s.size - 1)).data.toList := by simp [ofOk, hee, hcq]
         rw [hb] at ho
         go_wp2
         go_ret2; exact ⟨by simp [ofS, ho, hcq], rfl⟩)
      | (have hz : ¬ (s[s.size - 1].toNat) = 0 := by assumption
         have hz' : (s[s.size - 1] == 0) = false := by simpa using fun e => hz (UInt8.toNat_inj.2 e)
         rw [hz'] at hee
         have ho : ofOk s = false := by simp [ofOk, hee]
         go_ret2; exact ⟨by simp [ofS, ho], rfl⟩)
end Go.Proofs.Ytkobgejeapcfkaa
