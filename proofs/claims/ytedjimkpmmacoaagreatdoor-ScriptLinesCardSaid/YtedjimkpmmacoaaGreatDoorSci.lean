/-
  What begins tells its kind; no condition.
-/
import Derived.Test.YtedjimkpmmacoaaGreatDoorScg
namespace Go.Proofs.YtedjimkpmmacoaaGreatDoor
open Go.RowKit Go.WideShapes Go.ChangeShapes
set_option linter.all false
def secB (b : ByteArray) : Option UInt8 := b.data.toList[1]?
theorem secB_app (a b : ByteArray) (h : 1 < a.data.toList.length) : secB (a ++ b) = secB a := by
  unfold secB
  have : (a ++ b).data.toList = a.data.toList ++ b.data.toList := by simp
  rw [this, List.getElem?_append_left h]
theorem begS_sec (k : Nat) (t : ByteArray) (v : Nat) : secB (begS k t v) = if k = 1 then some 103 else if k = 2 then some 112 else if k = 3 then some 100 else if k = 4 then some 115 else some 116 := by
  unfold begS
  split
  · rw [secB_app _ _ (by simp)]; rfl
  · split
    · rw [secB_app _ _ (by simp), secB_app _ _ (by simp)]; rfl
    · split
      · rw [secB_app _ _ (by simp)]; rfl
      · split
        · rw [secB_app _ _ (by simp), secB_app _ _ (by simp)]; rfl
        · rfl
theorem begS_inj {k k' : Nat} {t : ByteArray} {v : Nat} (h1 : 1 ≤ k) (h5 : k ≤ 5) (h1' : 1 ≤ k') (h5' : k' ≤ 5) (h : begS k t v = begS k' t v) : k = k' := by
  have e := congrArg secB h
  rw [begS_sec, begS_sec] at e
  rcases (show k = 1 ∨ k = 2 ∨ k = 3 ∨ k = 4 ∨ k = 5 by omega) with rfl | rfl | rfl | rfl | rfl <;> rcases (show k' = 1 ∨ k' = 2 ∨ k' = 3 ∨ k' = 4 ∨ k' = 5 by omega) with rfl | rfl | rfl | rfl | rfl <;> first | rfl | (revert e; decide)
end Go.Proofs.YtedjimkpmmacoaaGreatDoor
