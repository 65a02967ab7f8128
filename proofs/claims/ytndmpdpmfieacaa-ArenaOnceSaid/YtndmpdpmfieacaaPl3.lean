/-
  What the pool answers; conditions: sizes.
-/
import Derived.Test.YtndmpdpmfieacaaPl2
namespace Go.Proofs.Ytndmpdpmfieacaa
open Go.RowKit Go.WideShapes Go.ChangeShapes
set_option linter.all false
theorem info4 : (Try.prog.info? 4).map (fun i => (i.zero, i.size, i.bytes)) = some (some (.bool false), 1, 1) := by kernel_rfl
/-- A pool of k numbers at P whose heap reads l, its row at I. -/
structure Pool (W : World) (P k : Nat) (l : Value) (w : World) : Prop where
  c0 : w.cell? ⟨P, 0, none⟩ = some l
  c1 : w.cell? ⟨P, 1, none⟩ = some (.slice (some ⟨W.heap.size, 0, none⟩) k k)
  hP : W.heap.size < P
  bel : Below W.heap.size W w
/-- A new one. -/
structure Fresh (W : World) (P k : Nat) (w : World) : Prop extends Pool W P k (.slice none 0 0) w where
  f0 : w.frozen? ⟨P, 0, none⟩ = false
  row : ∀ j, j < k → w.cell? ⟨W.heap.size, j, none⟩ = some (.bool false)
  frow : ∀ j, j < k → w.frozen? ⟨W.heap.size, j, none⟩ = false
set_option maxRecDepth 100000 in
set_option maxHeartbeats 400000 in
theorem new_any (k : Nat) (w : World) (hk : k ≤ 65535) : Calls Try.prog 47 #[.int .i64 k] w fun e w' => ∃ P, e = .returned (.tuple #[.pointer (some ⟨P, 0, none⟩), .int .i64 0]) ∧ Fresh w P k w' := by
  obtain ⟨i0, hi0, hz0, hz1, hz2⟩ := info_parts info4
  have hno : ¬ (k : Int) < 0 := by omega
  have hno2 : ¬ (k : Int) > 65535 := by omega
  go_enter Try.func47, Try.ntmps47
  go_wp2_with (first
    | (refine wpList_make_full _ rfl (.tmp 10) (.tmp 10) 145 rfl w.heap.size 4 i0 (.bool false) 1 Try.underlying145 hi0 hz0 hz1 .i64 .i64 _ _ k rfl rfl rfl rfl (by rw [hz2]; omega) (by unfold maxLen; omega) (Nat.le_refl _) ?_
       intro w1 hown hg1)
    | fail)
  have hb : Below w.heap.size w w1 := (Below.refl _ _).grown hg1 (Nat.le_refl _) (by simp)
  have hc : ∀ j, j < k → w1.cell? ⟨w.heap.size, j, none⟩ = some (.bool false) := fun j hj => by
    rw [World.ownsRow.cellAt hown j (by omega)]
    unfold madeCells
    simp [hj, Value.cells, Nat.mod_one]
  have hlt : w.heap.size < w1.heap.size := by
    have := hg1.size
    rcases hown.2 with ⟨h', _⟩ | ⟨g', cap', cur, h', _, hg, _⟩
    · simp at h'
    · injection h' with h1 h2 h3
      injection h1 with h1; injection h1 with h1 h4 h5
      subst h1
      rcases Nat.lt_or_ge w.heap.size w1.heap.size with h | h
      · exact h
      · rw [Array.getElem?_eq_none h] at hg; cases hg
  have hb1 : ∀ o : Obj, Below w1.heap.size w1 (w1.alloc o) := fun o => (Below.refl _ _).alloc (Nat.le_refl _) o
  go_ret2
  refine ⟨_, rfl, ⟨⟨?_, ?_, hlt, hb.alloc hb.size _⟩, ?_, ?_, ?_⟩⟩
  · rw [World.cell?_alloc_at _ _ _ _ rfl]; rfl
  · rw [World.cell?_alloc_at _ _ _ _ rfl]; rfl
  · simp
  · intro j hj; exact ((hb1 _).cell (p := ⟨w.heap.size, j, none⟩) hlt).trans (hc j hj)
  · intro j hj; exact ((hb1 _).frozen (p := ⟨w.heap.size, j, none⟩) hlt).trans (World.ownsRow.frozenAt hown j)
section
variable {W : World} {P k : Nat} {l : Value} {w : World}
set_option maxRecDepth 100000 in
set_option maxHeartbeats 400000 in
theorem put_out (h : Pool W P k l w) (n : Int) (hn : n < 0 ∨ (k : Int) ≤ n) : Calls Try.prog 48 #[.pointer (some ⟨P, 0, none⟩), .int .i64 n] w fun e w' => e = .returned (.bool false) ∧ w' = w := by
  have h1 := h.c1
  go_enter Try.func48, Try.ntmps48
  have H : Hid (n < 0 ∨ (k : Int) ≤ n) := hn
  clear hn
  go_wp2
  all_goals first
    | (exfalso; have := H.out; omega)
    | (go_ret; exact ⟨rfl, rfl⟩)
set_option maxRecDepth 100000 in
set_option maxHeartbeats 400000 in
theorem len_any {x : Option Addr} {m c : Nat} (h : Pool W P k (.slice x m c) w) : Calls Try.prog 50 #[.pointer (some ⟨P, 0, none⟩)] w fun e w' => e = .returned (.int .i64 m) ∧ w' = w := by
  have h1 := h.c0
  go_enter Try.func50, Try.ntmps50
  go_wp2
  go_ret
  exact ⟨rfl, rfl⟩
end
end Go.Proofs.Ytndmpdpmfieacaa
