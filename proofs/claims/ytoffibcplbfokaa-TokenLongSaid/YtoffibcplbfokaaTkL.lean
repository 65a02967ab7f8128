/-
  A text of 512 bytes is taken, one of a byte more isn't; condition: a length that fits an int.
-/
import Derived.Test.YtoffibcplbfokaaTk4
namespace Go.Proofs.Ytoffibcplbfokaa
open Go.RowKit Go.WideShapes Go.ChangeShapes
set_option linter.all false
theorem conv_one (w : World) (b : Int) : (convert 33 9 (.slice (some ⟨w.heap.size, 0, none⟩) 1 1)).run Try.prog (w.alloc (.cells #[.int .u8 b] 5)) = .ok (.string (strOfNums [b])) (w.alloc (.cells #[.int .u8 b] 5)) :=
  run_convert_bytes_arg _ 33 5 Try.underlying33 Try.underlying5 w.heap.size 0 1 1 [b] rfl (fun i hi => by
    obtain rfl : i = 0 := by omega
    exact cell_of_row _ _ 0 #[.int .u8 b] 5 (0, 0) (heap_alloc_new w _)) 9 Try.underlying9
def lenS (a : Value) : Nat := match a with | .string t => t.size | _ => 0
theorem size_one (b : Int) : (strOfNums [b]).size = 1 := rfl
set_option maxRecDepth 100000 in
set_option maxHeartbeats 800000 in
theorem long_any (s : ByteArray) (b : Int) (w : World) (hs : s.size ≤ 9223372036854775807) : Calls Try.prog 6 #[.string s, .int .u8 b] w fun e w' => e = .returned (.bool true) ∧ Below w.heap.size w w' := by
  go_enter Try.func6, Try.ntmps6
  go_wp2
  go_loopw [0] (fun a wr => ∃ t : ByteArray, a = .string t ∧ t.size ≤ 9223372036854775807 ∧ Below w.heap.size w wr) (fun a _ => 512 - lenS a)
  case atStart => exact ⟨s, rfl, hs, Below.refl _ _⟩
  case round =>
    obtain ⟨t, rfl, ht, hbl⟩ := hrel
    have hc := fun wx => conv_one wx b
    have h1 := size_one b
    by_cases hlt : t.size < 512
    · have hi : (t.size : Int) < 512 := by omega
      have hlim : ¬ 9223372036854775807 < t.size + 1 := by omega
      go_wp2
      go_roundw
      case rel => exact ⟨_, rfl, by rw [ByteArray.size_append, h1]; omega, after hbl (below_alloc _ _)⟩
      case measure => show 512 - (t ++ strOfNums [b]).size < 512 - t.size; rw [ByteArray.size_append, h1]; omega
    · have hi : ¬ (t.size : Int) < 512 := by omega
      have R1 : Hid True := Lib.hid trivial
      go_wp2_with (first
        | (go_at_call 8; clear R1; refine (terms_any _ _ (by simp; omega)).mono ?_
           rintro e w1 ⟨v1, rfl, hm1, hb1⟩
           obtain ⟨A1, c1, rfl⟩ := hm1.form
           have HB := Lib.hid (after hbl hb1)
           clear hm1 hb1)
        | (go_at_call 8; refine (terms_long _ _ (by rw [ByteArray.size_append, h1]; simp; omega)).mono ?_
           rintro e w2 ⟨rfl, rfl⟩)
        | (go_at_call 13; refine (runs_any _).mono ?_
           rintro e w3 ⟨rfl, hb3⟩
           have HB3 := Lib.hid (after (after HB.out (below_alloc _ _)) hb3)
           clear hb3)
        | fail)
      go_ret
      exact ⟨rfl, HB3.out⟩
theorem long_arg (s : ByteArray) (b : Int) (w : World) (hs : s.size ≤ maxLen) : Calls Try.prog 6 #[.string s, .int .u8 b] w fun e w' => e = .returned (.bool true) ∧ Below w.heap.size w w' := by
  unfold maxLen at hs
  exact long_any s b w hs
end Go.Proofs.Ytoffibcplbfokaa
