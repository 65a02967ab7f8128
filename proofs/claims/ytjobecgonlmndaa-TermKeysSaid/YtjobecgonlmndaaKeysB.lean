/-
  The law on keys at whatever texts: its cases put together; no condition.
-/
import Derived.Test.YtjobecgonlmndaaKeys
set_option linter.all false
namespace Go.Proofs.Ytjobecgonlmndaa
open Go.RowKit Go.WideShapes Go.ChangeShapes
theorem keys_any (a b : ByteArray) (runs : ∀ w, Calls Try.prog 16 #[] w fun e w' => e = .returned (.bool true) ∧ Below w.heap.size w w') (w : World) :
    Calls Try.prog 4 #[.string a, .string b] w fun e w' => e = .returned (.bool true) ∧ Below w.heap.size w w' := by
  cases ha : rightL a.data.toList with
  | false => exact keys_no a b runs w ha
  | true => cases hb : rightL b.data.toList with
    | false => exact keys_half a b runs w ha hb
    | true =>
      have la := rightL_len ha
      have lb := rightL_len hb
      have g1 : (a ++ ⟨#[0]⟩ : ByteArray).size ≤ 9223372036854775807 := by rw [ByteArray.size_append]; show a.size + 1 ≤ _; omega
      have g2 : (b ++ ⟨#[0]⟩ : ByteArray).size ≤ 9223372036854775807 := by rw [ByteArray.size_append]; show b.size + 1 ≤ _; omega
      by_cases hne : a = b
      · subst hne
        exact keys_eq a (a ++ (⟨#[0]⟩ : ByteArray)) runs w la ha (keyB_yes ha) (key_ofOk ha) (key_ofS ha) (key_noRight a) (bl_irr _) (bl_irr _) (z1 a) g1 (by omega) rfl
      · have t1 := key_comlt ha hb hne
        have t2 : comB (a ++ ⟨#[0]⟩) (b ++ ⟨#[0]⟩) < (b ++ ⟨#[0]⟩ : ByteArray).size := by rw [comB_comm]; exact key_comlt hb ha (Ne.symm hne)
        have t5 := key_less ha hb
        have t6 : (a.toList == b.toList) = false := by simpa using toList_ne hne
        have t7 : ((a ++ ⟨#[0]⟩ : ByteArray).toList == (b ++ ⟨#[0]⟩ : ByteArray).toList) = false := by simpa using key_ne hne
        cases hc : Op.bytesLess a.toList b.toList with
        | false =>
          rw [hc] at t5
          exact keys_lo a b (a ++ (⟨#[0]⟩ : ByteArray)) (b ++ (⟨#[0]⟩ : ByteArray)) runs w la ha hb (keyB_yes ha) (keyB_yes hb) (key_ofOk ha) (key_ofS ha) (key_noRight a) t1 t2 (comB_cut _ _) (comB_ne _ _ t1 t2) hc t5 t6 t7 (z1 a) (next_le a b) g1 g2 (by omega) rfl
        | true =>
          rw [hc] at t5
          exact keys_hi a b (a ++ (⟨#[0]⟩ : ByteArray)) (b ++ (⟨#[0]⟩ : ByteArray)) runs w la ha hb (keyB_yes ha) (keyB_yes hb) (key_ofOk ha) (key_ofS ha) (key_noRight a) t1 t2 (comB_cut _ _) (comB_ne _ _ t1 t2) hc t5 t6 t7 (z1 a) (next_le a b) g1 g2 (by omega) rfl
end Go.Proofs.Ytjobecgonlmndaa
