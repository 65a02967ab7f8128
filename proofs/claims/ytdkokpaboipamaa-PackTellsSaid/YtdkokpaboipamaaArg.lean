/-
  A list of words that comes in: read, and read again behind the call; no condition.
-/
import Derived.Test.YtdkokpaboipamaaPkH
import Derived.Test.YtdkokpaboipamaaBase
import Derived.ChangeSlices
import Derived.OpenShut
import Derived.ProofKit
namespace Go.Proofs.Ytdkokpaboipamaa
open Go.RowKit Go.WideShapes Go.ChangeShapes Go.ChangeAt
set_option linter.all false
theorem cells24 : Try.prog.cellsOf 24 = 1 := by kernel_rfl
theorem blk_of_cell {w : World} {a : Addr} {v : Value} (h : w.cell? a = some v) : a.block < w.heap.size := by
  rcases Nat.lt_or_ge a.block w.heap.size with h1 | h1
  · exact h1
  · unfold World.cell? at h
    rw [Array.getElem?_eq_none h1] at h
    simp at h
theorem open_words {H : Type} {enc : TypeId × Value → H} {W : World} {v : Value} {d : DataW H} {pl : List MemPlace} {base : Nat} (hok : Value.okWide Try.prog W .any base 22 v)
    (h : DataW.Trod enc Try.prog W 0 (fun _ => true) true 22 v d pl) :
    ∃ A len cap, ∃ xs : List Int, v = .slice A len cap ∧ Reads W W.heap.size 1 A len (u64s xs) ∧ W64 xs ∧ len ≤ cap ∧ cap ≤ maxLen ∧
      (∀ W', Below W.heap.size W W' → ∀ sp : Nat → Bool, (∀ p ∈ pl, sp p.block = true) → DataW.Trod enc Try.prog W' 0 sp true 22 v d pl) := by
  obtain ⟨a0, len, cap, rfl⟩ := okWide_slice Try.underlying22 hok
  obtain ⟨fuel, hf⟩ := h
  rcases open_ints Try.underlying22 Try.underlying24 cells24 hf with ⟨hcs, hx⟩ | ⟨a, len', cap', zs, hcs, _, hl, hm, hz, hx, hcell, hwz⟩
  · simp [Value.cells] at hcs
    obtain ⟨rfl, rfl, rfl⟩ := hcs
    simp only [Prod.mk.injEq] at hx
    obtain ⟨rfl, rfl⟩ := hx
    refine ⟨none, 0, 0, [], rfl, Reads.none_, fun i => by simp, Nat.le_refl _, Nat.zero_le _, fun W' _ sp _ => shut_slice_nil Try.underlying22⟩
  · simp [Value.cells] at hcs
    obtain ⟨rfl, rfl, rfl⟩ := hcs
    simp only [Prod.mk.injEq] at hx
    obtain ⟨rfl, rfl⟩ := hx
    simp only [if_true] at hz
    have hr := range_u64 hwz
    refine ⟨some a, len, cap, zs.take len, rfl, ?_, fun i => ?_, hl, hm, fun W' hb sp hsp => ?_⟩
    · refine ⟨by simp [u64s]; omega, fun hn => ⟨a, rfl, ?_, fun j u hu => ?_⟩⟩
      · have := blk_of_cell (hcell 0 (by omega))
        rw [block_of_add] at this; exact this
      · unfold u64s at hu
        rw [List.getElem?_map] at hu
        have hj : j < len := by
          rcases Nat.lt_or_ge j len with h | h
          · exact h
          · rw [List.getElem?_eq_none (by simp; omega)] at hu; cases hu
        rw [List.getElem?_take, if_pos hj, List.getElem?_eq_getElem (by omega)] at hu
        injection hu with hu
        rw [hcell j (by omega), ← hu, List.getD_eq_getElem?_getD, List.getElem?_eq_getElem (by omega)]; rfl
    · rw [List.getElem?_take]
      split
      · have := hr i; constructor
        · exact this.1
        · omega
      · simp
    · have hcell' : ∀ i, i < zs.length → W'.cell? (a.add i) = some (.int .u64 (zs.getD i 0)) := by
        intro i hi
        have h1 := hcell i hi
        have h2 := blk_of_cell h1
        rw [hb.cell h2, h1]
      by_cases hz0 : zs.length = 0
      · have hc0 : cap = 0 := by omega
        have hl0 : len = 0 := by omega
        subst hc0; subst hl0
        have t0 := shut_ints (enc := enc) (w := W') (base := 0) (spare := sp) (held := true) (a := a) (len := 0) (cap := 0) (zs := zs) 0 Try.underlying22 Try.underlying24 cells24 (Nat.zero_le _) (Nat.le_refl _) hm (by simp [hz0]) hcell' hwz
        exact ⟨2, by simpa [Value.cells] using t0⟩
      · have hspb : sp a.block = true := by
          have := hsp (.cell a.block a.off) (MemPlace.mem_row.2 ⟨0, by omega, by simp⟩)
          exact this
        have t0 := shut_ints (enc := enc) (w := W') (base := 0) (spare := sp) (held := true) (a := a) (len := len) (cap := cap) (zs := zs) 0 Try.underlying22 Try.underlying24 cells24 (Nat.zero_le _) hl hm (by simp [hspb, hz]) hcell' hwz
        exact ⟨2, by simpa [Value.cells] using t0⟩
end Go.Proofs.Ytdkokpaboipamaa
