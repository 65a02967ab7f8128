/-
  The law PackTells at any text, words, length; no condition beyond lengths that fit an int.
-/
import Derived.Test.YtdkokpaboipamaaPk9
import Derived.Test.YtdkokpaboipamaaRuns
namespace Go.Proofs.Ytdkokpaboipamaa
open Go.RowKit Go.WideShapes Go.ChangeShapes
set_option linter.all false
theorem Reads.take {w : World} {B n k : Nat} {A : Option Addr} {xs : List Int} (h : Reads w B 1 A n (u64s xs)) (hk : k ≤ n) : Reads w B 1 A k (u64s (xs.take k)) := by
  refine ⟨by simp [u64s, h.u64]; omega, fun hp => ?_⟩
  obtain ⟨ad, e, hb, hc⟩ := h.2 (by omega)
  refine ⟨ad, e, hb, fun j u hu => hc j u ?_⟩
  unfold u64s at hu ⊢
  rw [List.map_take, List.getElem?_take] at hu
  split at hu
  · exact hu
  · cases hu
theorem W64.take {xs : List Int} (h : W64 xs) (k : Nat) : W64 (xs.take k) := by
  intro i
  rw [List.getElem?_take]
  split
  · exact h i
  · simp
theorem tells_any (s0 : ByteArray) (A : Option Addr) (n0 c : Nat) (m : Int) (ys : List Int) (w : World) (hx : Reads w w.heap.size 1 A n0 (u64s ys)) (h64 : W64 ys) (hcap : n0 ≤ c) (hm : m ≤ 9223372036854775807) :
    Calls Try.prog 3 #[.string s0, .slice A n0 c, .int .i64 m] w fun e w' => e = .returned (.bool true) ∧ Below w.heap.size w w' := by
  have hz : (s0.extract 0 300).size ≤ 300 := by simp; omega
  by_cases hs : (300 : Int) < s0.size
  · by_cases hn : 60 < n0
    · exact tells11 s0 (s0.extract 0 300) A n0 60 c m (ys.take 60) packRuns_any w rfl hs hz ⟨by omega, rfl, by omega⟩ (hx.take (by omega)) (by omega) (h64.take 60) hm
    · exact tells10 s0 (s0.extract 0 300) A n0 n0 c m ys packRuns_any w rfl hs hz trivial hx (by omega) h64 hm
  · by_cases hn : 60 < n0
    · exact tells01 s0 s0 A n0 60 c m (ys.take 60) packRuns_any w trivial trivial (by omega) ⟨by omega, rfl, by omega⟩ (hx.take (by omega)) (by omega) (h64.take 60) hm
    · exact tells00 s0 s0 A n0 n0 c m ys packRuns_any w trivial trivial (by omega) trivial hx (by omega) h64 hm
end Go.Proofs.Ytdkokpaboipamaa
