/-
  The epochs told by their numbers: now and each client's pin; conditions: sizes.
-/
import Derived.Test.YtlkanknmjkeagaaRd
import Derived.Test.YtlkanknmjkeagaaChecked
import Derived.WalkKit
import Derived.OpenShut
import Derived.Below
import Derived.ChangeSame
import Derived.WalkLawsBesides
import Derived.BigFrame
import Derived.BigRegion
import Derived.OwnWalk
import Derived.Laws.OwnMore
import Derived.Laws.Small
import Derived.Laws.Cover1
import Derived.Laws.Slices
import Derived.IntWalk
import Derived.Lib.Hide
import Derived.Deep.RegionHeld3
import Derived.BigQuiet
namespace Go.Proofs.Ytlkanknmjkeagaa
open Go.RowKit Go.WideShapes Go.ChangeShapes
set_option linter.all false
/-- Epochs at E with k clients in the row at R. -/
structure Ep (E oE R oR k : Nat) (now : Int) (pin : Nat → Int) (w : World) : Prop where
  c0 : w.cell? ⟨E, oE, none⟩ = some (.int .i64 now)
  f0 : w.frozen? ⟨E, oE, none⟩ = false
  c2 : w.cell? ⟨E, oE + 2, none⟩ = some (.slice (some ⟨R, oR, none⟩) k k)
  pins : ∀ j, j < k → w.cell? ⟨R, oR + j * 2, none⟩ = some (.int .i64 (pin j))
  fpin : ∀ j, j < k → w.frozen? ⟨R, oR + j * 2, none⟩ = false
  ne : E ≠ R
section
variable {E oE R oR k : Nat} {now : Int} {pin : Nat → Int} {w w' : World}
theorem Ep.same (h : Ep E oE R oR k now pin w) (h1 : w'.heap[E]? = w.heap[E]?) (h2 : w'.heap[R]? = w.heap[R]?) : Ep E oE R oR k now pin w' :=
  ⟨(World.cell?_of_block (a := ⟨E, oE, none⟩) h1).trans h.c0, (World.frozen?_of_block (a := ⟨E, oE, none⟩) h1).trans h.f0, (World.cell?_of_block (a := ⟨E, oE + 2, none⟩) h1).trans h.c2,
    fun j hj => (World.cell?_of_block (a := ⟨R, oR + j * 2, none⟩) h2).trans (h.pins j hj), fun j hj => (World.frozen?_of_block (a := ⟨R, oR + j * 2, none⟩) h2).trans (h.fpin j hj), h.ne⟩
theorem Ep.drew (h : Ep E oE R oR k now pin w) : Ep E oE R oR k now pin w.drew := ⟨h.c0, h.f0, h.c2, h.pins, h.fpin, h.ne⟩
/-- One pin is set. -/
def setPin (pin : Nat → Int) (j : Nat) (n : Int) : Nat → Int := fun i => if i = j then n else pin i
theorem Ep.setPin (h : Ep E oE R oR k now pin w) (j : Nat) (hj : j < k) (n : Int) : Ep E oE R oR k now (setPin pin j n) (w.setCell ⟨R, oR + j * 2, none⟩ (.int .i64 n)) := by
  have hne := h.ne
  refine ⟨(World.cell?_setCell_far _ _ _ _ (by show R ≠ E; omega)).trans h.c0, by rw [World.frozen?_setCell]; exact h.f0, (World.cell?_setCell_far _ _ _ _ (by show R ≠ E; omega)).trans h.c2, fun i hi => ?_, fun i hi => by rw [World.frozen?_setCell]; exact h.fpin i hi, hne⟩
  unfold Ytlkanknmjkeagaa.setPin
  by_cases e : i = j
  · subst e; rw [if_pos rfl]; exact World.cell?_setCell_same _ _ _ (h.pins i hi)
  · rw [if_neg e]; exact (World.cell?_setCell_other _ _ _ _ (by simp [Ne.symm e])).trans (h.pins i hi)
theorem Ep.setNow (h : Ep E oE R oR k now pin w) (n : Int) : Ep E oE R oR k n pin (w.setCell ⟨E, oE, none⟩ (.int .i64 n)) := by
  have hne := h.ne
  exact ⟨World.cell?_setCell_same _ _ _ h.c0, by rw [World.frozen?_setCell]; exact h.f0, (World.cell?_setCell_other _ _ _ _ (by simp)).trans h.c2, fun i hi => (World.cell?_setCell_far _ _ _ _ (by show E ≠ R; omega)).trans (h.pins i hi),
    fun i hi => by rw [World.frozen?_setCell]; exact h.fpin i hi, hne⟩
set_option maxRecDepth 100000 in
set_option maxHeartbeats 400000 in
theorem has_in (h : Ep E oE R oR k now pin w) (j : Nat) (hj : j < k) : Calls Try.prog 19 #[.pointer (some ⟨E, oE, none⟩), .int .i64 j] w fun e w' => e = .returned (.bool true) ∧ w' = w := by
  have h2 := h.c2
  have hj1 : (j : Int) < k := by omega
  have hj0 : (0 : Int) ≤ j := by omega
  clear h
  go_enter Try.func19, Try.ntmps19
  go_wp2
  go_ret
  exact ⟨rfl, rfl⟩
set_option maxRecDepth 100000 in
set_option maxHeartbeats 400000 in
theorem has_out (h : Ep E oE R oR k now pin w) (n : Int) (hn : n < 0 ∨ (k : Int) ≤ n) : Calls Try.prog 19 #[.pointer (some ⟨E, oE, none⟩), .int .i64 n] w fun e w' => e = .returned (.bool false) ∧ w' = w := by
  have h2 := h.c2
  clear h
  go_enter Try.func19, Try.ntmps19
  have H : Hid (n < 0 ∨ (k : Int) ≤ n) := hn
  clear hn
  go_wp2
  all_goals first
    | (exfalso; have := H.out; omega)
    | (go_ret; exact ⟨rfl, rfl⟩)
    | (go_ret; exact ⟨by have := H.out; rw [decide_eq_false (by omega)]; rfl, rfl⟩)
set_option maxRecDepth 100000 in
set_option maxHeartbeats 400000 in
theorem now_any (h : Ep E oE R oR k now pin w) : Calls Try.prog 12 #[.pointer (some ⟨E, oE, none⟩)] w fun e w' => e = .returned (.int .i64 now) ∧ w' = w := by
  have h0 := h.c0
  clear h
  go_enter Try.func12, Try.ntmps12
  go_wp2
  go_ret
  exact ⟨rfl, rfl⟩
set_option maxRecDepth 100000 in
set_option maxHeartbeats 400000 in
theorem pinOf_in (h : Ep E oE R oR k now pin w) (j : Nat) (hj : j < k) : Calls Try.prog 11 #[.pointer (some ⟨E, oE, none⟩), .int .i64 j] w fun e w' => e = .returned (.int .i64 (pin j)) ∧ w' = w := by
  have h2 := h.c2
  have h3 := h.pins j hj
  have hj1 : (j : Int) < k := by omega
  have hj0 : (0 : Int) ≤ j := by omega
  have HH := Lib.hid h
  clear h
  go_enter Try.func11, Try.ntmps11
  go_wp2_with (first
    | (go_at_call 19; refine (has_in HH.out j hj).mono ?_; rintro e w1 ⟨rfl, rfl⟩)
    | fail)
  go_ret
  exact ⟨rfl, rfl⟩
set_option maxRecDepth 100000 in
set_option maxHeartbeats 400000 in
theorem pinOf_out (h : Ep E oE R oR k now pin w) (n : Int) (hn : n < 0 ∨ (k : Int) ≤ n) : Calls Try.prog 11 #[.pointer (some ⟨E, oE, none⟩), .int .i64 n] w fun e w' => e = .returned (.int .i64 (-1)) ∧ w' = w := by
  have HH := Lib.hid h
  have HN := Lib.hid hn
  clear h hn
  go_enter Try.func11, Try.ntmps11
  go_wp2_with (first
    | (go_at_call 19; refine (has_out HH.out n HN.out).mono ?_; rintro e w1 ⟨rfl, rfl⟩)
    | fail)
  go_ret
  exact ⟨rfl, rfl⟩
set_option maxRecDepth 100000 in
set_option maxHeartbeats 400000 in
theorem pin_in (h : Ep E oE R oR k now pin w) (j : Nat) (hj : j < k) (n : Int) (hn : 0 ≤ n) (hn9 : n ≤ now) : Calls Try.prog 8 #[.pointer (some ⟨E, oE, none⟩), .int .i64 j, .int .i64 n] w fun e w' => e = .returned (.bool true) ∧ w' = w.setCell ⟨R, oR + j * 2, none⟩ (.int .i64 n) := by
  have h0 := h.c0
  have h2 := h.c2
  have h3 := h.pins j hj
  have h4 := h.fpin j hj
  have hj1 : (j : Int) < k := by omega
  have hj0 : (0 : Int) ≤ j := by omega
  have hn1 : ¬ n < 0 := by omega
  have hn2 : ¬ n > now := by omega
  have HH := Lib.hid h
  clear h
  go_enter Try.func8, Try.ntmps8
  go_wp2_with (first
    | (go_at_call 19; refine (has_in HH.out j hj).mono ?_; rintro e w1 ⟨rfl, rfl⟩)
    | fail)
  go_ret
  exact ⟨rfl, rfl⟩
set_option maxRecDepth 100000 in
set_option maxHeartbeats 400000 in
theorem pin_late (h : Ep E oE R oR k now pin w) (j : Nat) (hj : j < k) (n : Int) (hn : 0 ≤ n) (hn9 : now < n) : Calls Try.prog 8 #[.pointer (some ⟨E, oE, none⟩), .int .i64 j, .int .i64 n] w fun e w' => e = .returned (.bool false) ∧ w' = w := by
  have h0 := h.c0
  have hn1 : ¬ n < 0 := by omega
  have hn2 : n > now := by omega
  have HH := Lib.hid h
  clear h
  go_enter Try.func8, Try.ntmps8
  go_wp2_with (first
    | (go_at_call 19; refine (has_in HH.out j hj).mono ?_; rintro e w1 ⟨rfl, rfl⟩)
    | fail)
  go_ret
  exact ⟨rfl, rfl⟩
set_option maxRecDepth 100000 in
set_option maxHeartbeats 400000 in
theorem pin_out (h : Ep E oE R oR k now pin w) (n m : Int) (hn : n < 0 ∨ (k : Int) ≤ n) : Calls Try.prog 8 #[.pointer (some ⟨E, oE, none⟩), .int .i64 n, .int .i64 m] w fun e w' => e = .returned (.bool false) ∧ w' = w := by
  have HH := Lib.hid h
  have HN := Lib.hid hn
  clear h hn
  go_enter Try.func8, Try.ntmps8
  go_wp2_with (first
    | (go_at_call 19; refine (has_out HH.out n HN.out).mono ?_; rintro e w1 ⟨rfl, rfl⟩)
    | fail)
  go_ret
  exact ⟨rfl, rfl⟩
set_option maxRecDepth 100000 in
set_option maxHeartbeats 400000 in
theorem unpin_in (h : Ep E oE R oR k now pin w) (j : Nat) (hj : j < k) : Calls Try.prog 9 #[.pointer (some ⟨E, oE, none⟩), .int .i64 j] w fun e w' => e = .returned (.bool true) ∧ w' = w.setCell ⟨R, oR + j * 2, none⟩ (.int .i64 (-1)) := by
  have h2 := h.c2
  have h3 := h.pins j hj
  have h4 := h.fpin j hj
  have hj1 : (j : Int) < k := by omega
  have hj0 : (0 : Int) ≤ j := by omega
  have HH := Lib.hid h
  clear h
  go_enter Try.func9, Try.ntmps9
  go_wp2_with (first
    | (go_at_call 19; refine (has_in HH.out j hj).mono ?_; rintro e w1 ⟨rfl, rfl⟩)
    | fail)
  go_ret
  exact ⟨rfl, rfl⟩
set_option maxRecDepth 100000 in
set_option maxHeartbeats 400000 in
theorem unpin_out (h : Ep E oE R oR k now pin w) (n : Int) (hn : n < 0 ∨ (k : Int) ≤ n) : Calls Try.prog 9 #[.pointer (some ⟨E, oE, none⟩), .int .i64 n] w fun e w' => e = .returned (.bool false) ∧ w' = w := by
  have HH := Lib.hid h
  have HN := Lib.hid hn
  clear h hn
  go_enter Try.func9, Try.ntmps9
  go_wp2_with (first
    | (go_at_call 19; refine (has_out HH.out n HN.out).mono ?_; rintro e w1 ⟨rfl, rfl⟩)
    | fail)
  go_ret
  exact ⟨rfl, rfl⟩
set_option maxRecDepth 100000 in
set_option maxHeartbeats 400000 in
theorem adv_yes (h : Ep E oE R oR k now pin w) (hn : 0 ≤ now) (hn9 : now < 1073741824) : Calls Try.prog 10 #[.pointer (some ⟨E, oE, none⟩), .int .i64 now] w fun e w' => e = .returned (.bool true) ∧ w' = w.setCell ⟨E, oE, none⟩ (.int .i64 (now + 1)) := by
  have h0 := h.c0
  have hf := h.f0
  have hn1 : ¬ now ≥ 1073741824 := by omega
  clear h
  go_enter Try.func10, Try.ntmps10
  go_wp2
  go_ret
  exact ⟨rfl, rfl⟩
set_option maxRecDepth 100000 in
set_option maxHeartbeats 400000 in
theorem adv_no (h : Ep E oE R oR k now pin w) (n : Int) (hn : (now == n) = false) : Calls Try.prog 10 #[.pointer (some ⟨E, oE, none⟩), .int .i64 n] w fun e w' => e = .returned (.bool false) ∧ w' = w := by
  have h0 := h.c0
  have hn' : (now != n) = true := by simp [bne, hn]
  clear h
  go_enter Try.func10, Try.ntmps10
  go_wp2
  go_ret
  exact ⟨rfl, rfl⟩
end
end Go.Proofs.Ytlkanknmjkeagaa
