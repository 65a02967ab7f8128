/-
  The law PackTells at any text, words, length; no condition beyond lengths that fit an int.
-/
import Derived.Test.YtdkokpaboipamaaPk7
namespace Go.Proofs.Ytdkokpaboipamaa
open Go.RowKit Go.WideShapes Go.ChangeShapes
set_option linter.all false
theorem room_reads {w : World} {g n : Nat} {xs : List Int} {v : Int} (hf : WB w g (xs ++ List.replicate 80 v)) (hg : g < w.heap.size) (hl : xs.length = n) : Reads w w.heap.size 1 (some ⟨g, 0, none⟩) n (u64s xs) := by
  have := hf.reads w.heap.size hg 0 n (by simp [hl])
  rw [List.drop_zero, List.take_append_of_le_length (by omega), List.take_of_length_le (by omega)] at this
  exact this
theorem Reads.on {w w' : World} {A : Option Addr} {n : Nat} {xs : List Int} (h : Reads w w.heap.size 1 A n (u64s xs)) (hb : Below w.heap.size w w') : Reads w' w'.heap.size 1 A n (u64s xs) := (h.below hb).more hb.size
theorem after {a b c : World} (h : Below a.heap.size a b) (k : Below b.heap.size b c) : Below a.heap.size a c := h.trans (k.mono h.size)
theorem own_lt {w : World} {B g n : Nat} {xs : List Int} (h : w.ownsRow B 24 1 (sl g n) n (u64s xs)) : g < w.heap.size := Blk.lt (own_wb h)
theorem WB.whole {w : World} {g n : Nat} {xs : List Int} (h : WB w g xs) (hl : xs.length = n) : Reads w w.heap.size 1 (some ⟨g, 0, none⟩) n (u64s xs) := by
  have := h.reads w.heap.size (Blk.lt h) 0 n (by omega)
  rw [List.drop_zero, List.take_of_length_le (by omega)] at this
  exact this
theorem WB.on {w w' : World} {g : Nat} {xs : List Int} (h : WB w g xs) (hb : Below w.heap.size w w') : WB w' g xs := h.below hb (Blk.lt h)
theorem bytesV_t (xs : List Int) (m : Nat) : bytesV xs m true = .tuple #[.string (strOfNums (bt xs m m)), .int .i64 0] := rfl
theorem bytesV_f (xs : List Int) (m : Nat) : bytesV xs m false = .tuple #[.string ⟨#[]⟩, .int .i64 5] := rfl
end Go.Proofs.Ytdkokpaboipamaa
