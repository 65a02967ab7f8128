/-
  New epochs, nothing waits; conditions: sizes.
-/
import Derived.Test.YtafedpphecfgnaaEx3
namespace Go.Proofs.Ytafedpphecfgnaa
open Go.RowKit Go.WideShapes Go.ChangeShapes
set_option linter.all false
theorem info56 : (Try.prog.info? 56).map (fun i => (i.zero, i.size, i.bytes)) = some (some (.agg #[.int .i64 0, .slice none 0 0]), 2, 32) := by kernel_rfl
/-- The row at R: no lists yet. -/
structure Row0 (R k : Nat) (w : World) : Prop where
  lists : ∀ j, j < k → w.cell? ⟨R, j * 2 + 1, none⟩ = some (.slice none 0 0)
  pins : ∀ j, j < k → ∃ u, w.cell? ⟨R, j * 2, none⟩ = some u
  free : ∀ j, w.frozen? ⟨R, j, none⟩ = false
set_option maxRecDepth 100000 in
set_option maxHeartbeats 800000 in
theorem eNew_any (k : Nat) (lim : Int) (w : World) (hk : 1 ≤ k) (hk9 : k ≤ 8) (hl : 4 ≤ lim) (hl9 : lim ≤ 64) : Calls Try.prog 7 #[.int .i64 k, .int .i64 lim] w fun e w' =>
    ∃ E, e = .returned (.tuple #[.pointer (some ⟨E, 0, none⟩), .int .i64 0]) ∧ Es w.heap.size E w.heap.size k lim 0 (fun _ => .slice none 0 0) (fun _ => []) w' ∧ Below w.heap.size w w' := by
  obtain ⟨i0, hi0, hz0, hz1, hz2⟩ := info_parts info56
  have h1 : ¬ (k : Int) < 1 := by omega
  have h2 : ¬ (k : Int) > 8 := by omega
  have h3 : ¬ lim < 4 := by omega
  have h4 : ¬ lim > 64 := by omega
  go_enter Try.func7, Try.ntmps7
  go_wp2_with (first
    | (refine wpList_make_full _ rfl (.tmp 23) (.tmp 23) 51 rfl w.heap.size 56 i0 _ 2 Try.underlying51 hi0 hz0 hz1 .i64 .i64 _ _ k rfl rfl rfl rfl (by rw [hz2]; omega) (by unfold maxLen; omega) (Nat.le_refl _) ?_
       intro w1 hown hg1)
    | fail)
  have hb : Below w.heap.size w w1 := (Below.refl _ _).grown hg1 (Nat.le_refl _) (by simp)
  have hlt : w.heap.size < w1.heap.size := (hown.lt _ rfl).2
  have hr0 : ∀ j, j < k * 2 → w1.cell? ⟨w.heap.size, j, none⟩ = some (if j % 2 = 0 then .int .i64 0 else .slice none 0 0) := fun j hj => by
    rw [World.ownsRow.cellAt hown j (by omega)]
    unfold madeCells
    rcases Nat.mod_two_eq_zero_or_one j with h | h <;> simp [h, hj, Value.cells]
  have hfr : ∀ j, w1.frozen? ⟨w.heap.size, j, none⟩ = false := fun j => World.ownsRow.frozenAt hown j
  generalize hR : w.heap.size = R at *
  generalize hE : w1.heap.size = E at *
  have HR := Lib.hid hR
  have HE := Lib.hid hE
  clear hown hg1 hR hE
  go_loopw [32] (fun i wr => ∃ j : Nat, j ≤ k ∧ i = .int .i64 j ∧ wr.cell? ⟨E, 0, none⟩ = some (.int .i64 0) ∧ wr.frozen? ⟨E, 0, none⟩ = false ∧ wr.cell? ⟨E, 1, none⟩ = some (.int .i64 lim) ∧ wr.cell? ⟨E, 2, none⟩ = some (.slice (some ⟨R, 0, none⟩) k k) ∧ Hid (Row0 R k wr) ∧ Below R w wr) (fun i _ => k - (intOf i).toNat)
  case atStart =>
    subst E
    have hbo : ∀ o : Obj, Below w1.heap.size w1 (w1.alloc o) := fun o => (Below.refl _ _).alloc (Nat.le_refl _) o
    refine ⟨0, by omega, rfl, World.cell?_alloc_at _ _ _ _ rfl, World.frozen?_alloc_at _ _ _ _ rfl, World.cell?_alloc_at _ _ _ _ rfl, World.cell?_alloc_at _ _ _ _ rfl, Lib.hid ⟨fun j hj => ?_, fun j hj => ⟨.int .i64 0, ?_⟩, fun j => ?_⟩, hb.alloc (by omega) _⟩
    · rw [(hbo _).cell (p := ⟨R, j * 2 + 1, none⟩) hlt, hr0 _ (by omega), if_neg (by omega)]
    · rw [(hbo _).cell (p := ⟨R, j * 2, none⟩) hlt, hr0 _ (by omega), if_pos (by omega)]
    · rw [(hbo _).frozen (p := ⟨R, j, none⟩) hlt]; exact hfr _
  case round =>
    obtain ⟨j, hj, rfl, hc0, hf0, hc1, hc2, HRow, hbl⟩ := hrel
    by_cases hjk : j < k
    · obtain ⟨u, hu⟩ := HRow.out.pins j hjk
      have hf := HRow.out.free (j * 2)
      have hj1 : (j : Int) < k := by omega
      have hj0 : (0 : Int) ≤ j := by omega
      go_wp2
      go_roundw
      case rel =>
        refine ⟨j + 1, by omega, by go_num, ?_, ?_, ?_, ?_, Lib.hid ⟨fun i hi => ?_, fun i hi => ?_, fun i => ?_⟩, hbl.setCell (Nat.le_refl _) _⟩
        · exact (World.cell?_setCell_far _ _ _ _ (by show R ≠ E; omega)).trans hc0
        · rw [World.frozen?_setCell]; exact hf0
        · exact (World.cell?_setCell_far _ _ _ _ (by show R ≠ E; omega)).trans hc1
        · exact (World.cell?_setCell_far _ _ _ _ (by show R ≠ E; omega)).trans hc2
        · exact (World.cell?_setCell_other _ _ _ _ (by simp <;> omega)).trans (HRow.out.lists i hi)
        · obtain ⟨m, hm⟩ := HRow.out.pins i hi
          by_cases e : i = j
          · subst e; exact ⟨_, World.cell?_setCell_same _ _ _ hm⟩
          · exact ⟨m, (World.cell?_setCell_other _ _ _ _ (by simp [Ne.symm e])).trans hm⟩
        · rw [World.frozen?_setCell]; exact HRow.out.free i
      case measure => simp only [intOf]; omega
    · obtain rfl : j = k := by omega
      go_wp2
      go_ret2
      rw [HR.out]
      exact ⟨E, rfl, ⟨hc0, hf0, hc1, hc2, HRow.out.lists, fun i _ => HRow.out.free _, fun i hi => Mid.nil _ _ _ _, fun i i' _ _ _ g hg => by simp [Value.ownBlock] at hg, hlt, Nat.le_refl _⟩, hbl⟩
end Go.Proofs.Ytafedpphecfgnaa
