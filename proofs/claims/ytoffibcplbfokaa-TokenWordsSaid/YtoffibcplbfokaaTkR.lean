/-
  A word of letters is a right term; no condition.
-/
import Derived.Test.YtoffibcplbfokaaTk4
import Derived.Test.YtoffibcplbfokaaShelfC
namespace Go.Proofs.Ytoffibcplbfokaa
open Go.RowKit Go.WideShapes Go.ChangeShapes
set_option linter.all false
def nz (l : List UInt8) : Bool := l.all (· != 0)
theorem indexByte_nz : ∀ l : List UInt8, decide (0 ≤ Lib.indexByte l 0) = !nz l
  | [] => rfl
  | b :: l => by
    have ih := indexByte_nz l
    unfold Lib.indexByte
    by_cases hb : b = 0
    · subst hb; simp [nz]
    · have h1 : (b == 0) = false := by simpa using hb
      have hge := Lib.indexByte_ge l 0
      rw [h1]
      simp only [Bool.false_eq_true, if_false]
      have : nz (b :: l) = nz l := by simp [nz, hb]
      rw [this, ← ih]
      by_cases hl : Lib.indexByte l 0 = -1
      · simp [hl]
      · have : (Lib.indexByte l 0 == -1) = false := by simpa using hl
        rw [this]
        simp only [Bool.false_eq_true, if_false, decide_eq_decide]
        omega
theorem word_nz {x : List UInt8} (h : lettersB x = true) : nz x = true := by
  unfold lettersB at h; unfold nz
  rw [List.all_eq_true] at h ⊢
  intro c hc
  have := h c hc
  rw [Bool.and_eq_true] at this
  exact this.2
theorem right_word {x : List UInt8} (h : wordB x) (w : World) : Calls Try.prog 14 #[.string (bt x)] w fun e w' => e = .returned (.bool true) ∧ w' = w := by
  have h0 : decide (0 ≤ Lib.indexByte x 0) = false := by rw [indexByte_nz, word_nz h.2.2]; rfl
  have h1 : (1 : Int) ≤ (bt x).size := by
    have : x.length ≠ 0 := fun e => h.1 (List.eq_nil_of_length_eq_zero e)
    rw [bt_size]; omega
  have h2 : ((bt x).size : Int) ≤ 12 := by rw [bt_size]; have := h.2.1; omega
  go_enter Try.func14, Try.ntmps14
  go_wp2_with (first
    | (go_at_call 20; refine (strings_Contains_one _ _ _).mono ?_; rintro e w' ⟨rfl, rfl⟩; rw [bt_data, h0])
    | fail)
  go_ret
  exact ⟨rfl, rfl⟩
end Go.Proofs.Ytoffibcplbfokaa
