/-
  Refs and their parts, the program's and the document's own; no condition but that integers fit their kinds.
-/
import Derived.Test.YtndmpdpmfieacaaChecked
import Derived.WalkKit
import Derived.ProofKit
import Derived.OpenShut
import Derived.Laws.BitsLemmas
namespace Go.Proofs.Ytndmpdpmfieacaa
open Go.ChangeShapes Go.WideShapes Go.ChangeAt Go.RowKit
set_option linter.all false
set_option maxHeartbeats 1000000
def refV (s g : Int) (l : Bool) : Int :=
  if (0 ≤ s ∧ s < 1024) ∧ 1 ≤ g ∧ g ≤ 1073741824 then
    if l = true then bits .or .i64 (bits .or .i64 (g * 65536) s) 281474976710656 else bits .or .i64 (g * 65536) s
  else 0
theorem ref_c (s g : Int) (l : Bool) (w : World) :
    Calls Try.prog 25 #[.int .i64 s, .int .i64 g, .bool l] w fun e w' => e = .returned (.int .i64 (refV s g l)) ∧ w = w' := by
  go_enter Try.func25, Try.ntmps25
  go_wp2
  all_goals go_ret
  all_goals refine ⟨?_, rfl⟩
  all_goals simp only [refV]
  all_goals first
    | (rw [if_neg (by omega)]; rfl)
    | (rw [if_pos (by omega), if_pos (by assumption)]; rfl)
    | (rw [if_pos (by omega), if_neg (by simp [*])]; rfl)
theorem rref_c (s g : Int) (l : Bool) (w : World) :
    Calls Try.prog 62 #[.int .i64 s, .int .i64 g, .bool l] w fun e w' => e = .returned (.int .i64 (refV s g l)) ∧ w = w' := by
  go_enter Try.func62, Try.ntmps62
  go_wp2
  all_goals go_ret
  all_goals refine ⟨?_, rfl⟩
  all_goals simp only [refV]
  all_goals first
    | (rw [if_neg (by omega)]; rfl)
    | (rw [if_pos (by omega), if_pos (by assumption)]; rfl)
    | (rw [if_pos (by omega), if_neg (by simp [*])]; rfl)
def slotV (r : Int) : Int := bits .and .i64 r 65535
def genV (r : Int) : Int := bits .and .i64 (r / 65536) 4294967295
def leafV (r : Int) : Bool := bits .and .i64 (r / 281474976710656) 1 == 1
def goodP (r : Int) : Prop := ¬ r = 0 ∧ refV (slotV r) (genV r) (leafV r) = r
theorem parts_good (r : Int) (hg : goodP r) (w : World) :
    Calls Try.prog 55 #[.int .i64 r] w fun e w' => e = .returned (.tuple #[.int .i64 (slotV r), .int .i64 (genV r), .bool (leafV r), .bool true]) ∧ w = w' := by
  have hz : ¬ r = 0 := hg.1
  go_enter Try.func55, Try.ntmps55
  go_wp2_with (go_at_call 25; refine (ref_c _ _ _ _).mono ?_; rintro e w' ⟨rfl, rfl⟩)
  · rename_i h
    rcases h with h | h
    · exact absurd (by simpa using h) hz
    · exact absurd hg.2 (by simpa [slotV, genV, leafV] using h)
  · exact bodyPost_ret (v := .tuple #[.int .i64 (slotV r), .int .i64 (genV r), .bool (leafV r), .bool true]) (by simp [results, Try.f55, slotV, genV, leafV]) rfl ⟨rfl, rfl⟩
theorem parts_bad (r : Int) (hg : ¬ goodP r) (w : World) :
    Calls Try.prog 55 #[.int .i64 r] w fun e w' => e = .returned (.tuple #[.int .i64 0, .int .i64 0, .bool false, .bool false]) ∧ w = w' := by
  go_enter Try.func55, Try.ntmps55
  go_wp2_with (go_at_call 25; refine (ref_c _ _ _ _).mono ?_; rintro e w' ⟨rfl, rfl⟩)
  · exact bodyPost_ret (v := .tuple #[.int .i64 0, .int .i64 0, .bool false, .bool false]) (by simp [results, Try.f55]) rfl ⟨rfl, rfl⟩
  · exact bodyPost_ret (v := .tuple #[.int .i64 0, .int .i64 0, .bool false, .bool false]) (by simp [results, Try.f55]) rfl ⟨rfl, rfl⟩
  · rename_i h1 h
    exact absurd ⟨h1, by simpa [slotV, genV, leafV] using h.2⟩ hg
theorem wraps_i64 (n : Int) (h₀ : 0 ≤ n) (h₁ : n < 2 ^ 63) : IntKind.i64.wrap n = n := by
  have h2 : ¬ n % 18446744073709551616 ≥ 9223372036854775808 := by omega
  simp [IntKind.wrap, IntKind.bits, IntKind.signed, h2]
  omega
theorem or_comm_i64 (x y : Int) : bits .or .i64 x y = bits .or .i64 y x := by
  simp only [bits, BitVec.or_comm]
theorem refV_eq (s g : Int) (l : Bool) : refV s g l = if (0 ≤ s ∧ s < 1024) ∧ 1 ≤ g ∧ g ≤ 1073741824 then g * 65536 + s + (if l = true then 281474976710656 else 0) else 0 := by
  unfold refV
  by_cases h : (0 ≤ s ∧ s < 1024) ∧ 1 ≤ g ∧ g ≤ 1073741824
  · rw [if_pos h, if_pos h]
    have h1 : bits .or .i64 (g * 65536) s = g * 65536 + s := bits_join .i64 63 (by decide) wraps_i64 16 _ _ (by omega) (by omega) (by omega) (by omega) (by omega) (by omega)
    rw [h1]
    cases l
    · simp
    · have h2 : bits .or .i64 281474976710656 (g * 65536 + s) = 281474976710656 + (g * 65536 + s) := bits_join .i64 63 (by decide) wraps_i64 48 _ _ (by omega) (by decide) (by decide) (by omega) (by omega) (by omega)
      simp only [if_true]
      rw [or_comm_i64, h2]
      omega
  · rw [if_neg h, if_neg h]
theorem good_range {r : Int} (h : goodP r) : 0 < r ∧ r < 562949953421312 := by
  obtain ⟨h0, h1⟩ := h
  rw [refV_eq] at h1
  split at h1
  · split at h1 <;> omega
  · omega
theorem leaf_eq {r : Int} (h0 : 0 < r) (h1 : r < 562949953421312) : (r / 281474976710656 == 1) = leafV r := by
  unfold leafV
  have hq : r / 281474976710656 = 0 ∨ r / 281474976710656 = 1 := by omega
  rcases hq with hq | hq <;> rw [hq] <;> decide +kernel
theorem rparts_good (r : Int) (hg : goodP r) (w : World) :
    Calls Try.prog 79 #[.int .i64 r] w fun e w' => e = .returned (.tuple #[.int .i64 (slotV r), .int .i64 (genV r), .bool (leafV r), .bool true]) ∧ w = w' := by
  obtain ⟨h0, h1⟩ := good_range hg
  go_enter Try.func79, Try.ntmps79
  go_wp2_with (go_at_call 62; refine (rref_c _ _ _ _).mono ?_; rintro e w' ⟨rfl, rfl⟩)
  · rename_i h
    rw [leaf_eq h0 h1] at h
    exact absurd hg.2 (by simpa [slotV, genV] using h)
  · exact bodyPost_ret (v := .tuple #[.int .i64 (slotV r), .int .i64 (genV r), .bool (leafV r), .bool true]) (by simp [results, Try.f79, slotV, genV, ← leaf_eq h0 h1]) rfl ⟨rfl, rfl⟩
theorem rparts_bad (r : Int) (hg : ¬ goodP r) (w : World) :
    Calls Try.prog 79 #[.int .i64 r] w fun e w' => e = .returned (.tuple #[.int .i64 0, .int .i64 0, .bool false, .bool false]) ∧ w = w' := by
  go_enter Try.func79, Try.ntmps79
  go_wp2_with (go_at_call 62; refine (rref_c _ _ _ _).mono ?_; rintro e w' ⟨rfl, rfl⟩)
  · exact bodyPost_ret (v := .tuple #[.int .i64 0, .int .i64 0, .bool false, .bool false]) (by simp [results, Try.f79]) rfl ⟨rfl, rfl⟩
  · exact bodyPost_ret (v := .tuple #[.int .i64 0, .int .i64 0, .bool false, .bool false]) (by simp [results, Try.f79]) rfl ⟨rfl, rfl⟩
  · rename_i h1 h2 h
    rw [leaf_eq h2.1 h2.2] at h
    exact absurd ⟨by omega, by simpa [slotV, genV] using h⟩ hg
  · exact bodyPost_ret (v := .tuple #[.int .i64 0, .int .i64 0, .bool false, .bool false]) (by simp [results, Try.f79]) rfl ⟨rfl, rfl⟩
open Classical in
/-- Is it a ref? -/
noncomputable def goodB (r : Int) : Bool := decide (goodP r)
theorem goodB_yes {r : Int} (h : goodP r) : goodB r = true := by simp [goodB, h]
theorem goodB_no {r : Int} (h : ¬ goodP r) : goodB r = false := by simp [goodB, h]

theorem wparts_any (r : Int) (w : World) : Calls Try.prog 55 #[.int .i64 r] w fun e w' => w' = w ∧ ∃ a b : Int, ∃ l : Bool, e = .returned (.tuple #[.int .i64 a, .int .i64 b, .bool l, .bool (goodB r)]) := by
  by_cases hg : goodP r
  · rw [goodB_yes hg]; exact (parts_good r hg w).mono fun e w' h => ⟨h.2.symm, _, _, _, h.1⟩
  · rw [goodB_no hg]; exact (parts_bad r hg w).mono fun e w' h => ⟨h.2.symm, _, _, _, h.1⟩
theorem rparts_any (r : Int) (w : World) : Calls Try.prog 79 #[.int .i64 r] w fun e w' => w' = w ∧ ∃ a b : Int, ∃ l : Bool, e = .returned (.tuple #[.int .i64 a, .int .i64 b, .bool l, .bool (goodB r)]) := by
  by_cases hg : goodP r
  · rw [goodB_yes hg]; exact (rparts_good r hg w).mono fun e w' h => ⟨h.2.symm, _, _, _, h.1⟩
  · rw [goodB_no hg]; exact (rparts_bad r hg w).mono fun e w' h => ⟨h.2.symm, _, _, _, h.1⟩
theorem and16 {x : Int} (h0 : 0 ≤ x) (h1 : x < 9223372036854775808) : bits .and .i64 x 65535 = x % 65536 := bits_mask .i64 63 (by decide) wraps_i64 16 (by decide) x h0 h1
theorem and32 {x : Int} (h0 : 0 ≤ x) (h1 : x < 9223372036854775808) : bits .and .i64 x 4294967295 = x % 4294967296 := bits_mask .i64 63 (by decide) wraps_i64 32 (by decide) x h0 h1
theorem slot_part {s g : Int} {l : Bool} (hs : 0 ≤ s ∧ s < 1024) (hg : 1 ≤ g ∧ g ≤ 1073741824) : slotV (refV s g l) = s ∧ genV (refV s g l) = g ∧ leafV (refV s g l) = l := by
  rw [refV_eq, if_pos ⟨hs, hg⟩]
  have hl : ∃ b : Int, (b = 0 ∨ b = 1) ∧ (if l = true then (281474976710656 : Int) else 0) = b * 281474976710656 ∧ l = (b == 1) := by
    cases l
    · exact ⟨0, .inl rfl, rfl, rfl⟩
    · exact ⟨1, .inr rfl, rfl, rfl⟩
  obtain ⟨b, hb, h1, h2⟩ := hl
  rw [h1]
  refine ⟨?_, ?_, ?_⟩
  · unfold slotV
    rw [and16 (by omega) (by omega)]
    omega
  · unfold genV
    rw [and32 (by omega) (by omega)]
    omega
  · unfold leafV
    rw [h2]
    have : (g * 65536 + s + b * 281474976710656) / 281474976710656 = b := by omega
    rw [this]
    rcases hb with rfl | rfl <;> decide +kernel
theorem good_ref {s g : Int} {l : Bool} (hs : 0 ≤ s ∧ s < 1024) (hg : 1 ≤ g ∧ g ≤ 1073741824) : goodP (refV s g l) := by
  obtain ⟨h1, h2, h3⟩ := slot_part (l := l) hs hg
  refine ⟨?_, by rw [h1, h2, h3]⟩
  rw [refV_eq, if_pos ⟨hs, hg⟩]
  cases l <;> simp <;> omega
/-- What a good ref's parts are. -/
theorem good_parts {r : Int} (h : goodP r) : (0 ≤ slotV r ∧ slotV r < 1024) ∧ 1 ≤ genV r ∧ genV r ≤ 1073741824 := by
  obtain ⟨h0, h1⟩ := h
  rw [refV_eq] at h1
  split at h1
  · assumption
  · exact absurd h1.symm h0
theorem ref_inj {s g s' g' : Int} {l l' : Bool} (hs : 0 ≤ s ∧ s < 1024) (hg : 1 ≤ g ∧ g ≤ 1073741824) (hs' : 0 ≤ s' ∧ s' < 1024) (hg' : 1 ≤ g' ∧ g' ≤ 1073741824) (h : refV s g l = refV s' g' l') : s = s' ∧ g = g' ∧ l = l' := by
  obtain ⟨h1, h2, h3⟩ := slot_part (l := l) hs hg
  obtain ⟨k1, k2, k3⟩ := slot_part (l := l') hs' hg'
  rw [h] at h1 h2 h3
  exact ⟨h1.symm.trans k1, h2.symm.trans k2, h3.symm.trans k3⟩
end Go.Proofs.Ytndmpdpmfieacaa
