/-
  Whether a list and the room behind it are as they were; conditions: lengths.
-/
import Derived.Test.YtdkokpaboipamaaPk5
namespace Go.Proofs.Ytdkokpaboipamaa
open Go.RowKit Go.WideShapes Go.ChangeShapes
set_option linter.all false
theorem eqB_self (xs : List Int) : eqB xs xs = true := by unfold eqB; simp
theorem end_get (xs : List Int) (v : Int) (k : Nat) (h : k < 80) : (xs ++ List.replicate 80 v).getD (xs.length + k) 0 = v := by
  rw [List.getD_eq_getElem?_getD, List.getElem?_append_right (by omega), Nat.add_sub_cancel_left, List.getElem?_replicate, if_pos h]; rfl
theorem WB.below {w w' : World} {g B : Nat} {xs : List Int} (h : WB w g xs) (hb : Below B w w') (hg : g < B) : WB w' g xs := Blk.below h hb hg
set_option maxHeartbeats 1600000 in
theorem intact_any (A : Option Addr) (n c g : Nat) (xs : List Int) (v : Int) (w : World) (hx : Reads w w.heap.size 1 A n (u64s xs)) (hg : g < w.heap.size) (hf : WB w g (xs ++ List.replicate 80 v)) (hn : n ≤ 1000) :
    Calls Try.prog 16 #[.slice (some ⟨g, 0, none⟩) (n + 80) (n + 80), .slice A n c, .int .u64 v] w fun e w' => e = .returned (.bool true) ∧ Below w.heap.size w w' := by
  have LX : Hid (xs.length = n) := hx.u64
  have hr : Reads w w.heap.size 1 (some ⟨g, 0, none⟩) n (u64s xs) := by
    have := hf.reads w.heap.size hg 0 n (by simp [LX.out])
    rw [List.drop_zero, List.take_append_of_le_length (by rw [LX.out]; omega), List.take_of_length_le (by rw [LX.out]; omega)] at this
    exact this
  go_enter Try.func16, Try.ntmps16
  go_wp2_with (first
    | (go_at_call 12; refine (same_any w.heap.size (some ⟨g, 0, none⟩) A n n (n + 80) c xs xs _ hr hx (by omega) (by omega)).mono ?_; rintro e w1 ⟨rfl, hb1⟩; rw [eqB_self])
    | fail)
  go_loopw [6, 7] (fun _ i wr => ∃ k : Nat, k ≤ 80 ∧ i = .int .i64 ((n + k : Nat)) ∧ Below w.heap.size w wr) (fun _ i _ => n + 80 - (intOf i).toNat)
  case atStart => exact ⟨0, Nat.zero_le _, by simp, hb1⟩
  case round =>
    obtain ⟨k, hk, rfl, hbl⟩ := hrel
    by_cases hlt : k < 80
    · have hcell := (hf.below hbl hg).cell (n + k) (by simp [LX.out]; omega)
      have he := end_get xs v k hlt
      rw [LX.out] at he
      rw [he] at hcell
      clear he
      go_wp2
      go_roundw
      case rel => exact ⟨k + 1, by omega, by simp; omega, hbl⟩
      case measure => simp only [intOf]; omega
    · have hnl : ¬ ((n : Int) + k < (n : Int) + 80) := by omega
      go_wp2
      go_ret
      exact ⟨rfl, hbl⟩
end Go.Proofs.Ytdkokpaboipamaa
