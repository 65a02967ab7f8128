/-
  The pool's numbers: what Push does to an empty heap.
  heap.Push onto an empty heap of numbers.
  The pool's numbers: what Push does to a row of its own.
  Less and Swap of the pool's numbers, at any row; conditions: the places lie in it.
  The pool's heap of numbers: its methods by name, a swapped row, Pop.
  heap.up over the pool's numbers, told by what it makes of the list.
  heap.down over the pool's numbers, told by what it makes of the list.
  What up and down do to a list: pure facts.
  Heaps as lists: pure facts.
  heap.Push and heap.Pop over the pool's numbers, told by lists.
  heap.Pop over the pool's numbers, told by lists.
  What the pool answers; conditions: sizes.
  The pool told by the list of its free numbers: New, Put, Take, Has, Len; conditions: sizes.
-/
import Derived.Test.YtndmpdpmfieacaaChecked
import Derived.WalkKit
import Derived.OpenShut
import Derived.Below
import Derived.ChangeSame
import Derived.WalkLawsBesides
import Derived.BigFrame
import Derived.BigRegion
import Derived.OwnWalk
import Derived.Laws.OwnMore
import Derived.Laws.Small
import Derived.Laws.Cover1
import Derived.Laws.Slices
import Derived.IntWalk
import Derived.Deep.RegionHeld3
import Derived.Deep.RegionLaw
import Derived.Deep.DrawnRows
import Derived.Deep.AppendLies
import Derived.Lib.Hide
import Derived.Deep.QuietTactic
import Derived.BigQuiet
import Derived.StillTailTactics
namespace Go.Proofs.Ytndmpdpmfieacaa
open Go.RowKit Go.WideShapes Go.ChangeShapes
set_option linter.all false
attribute [local go_sem ↓] Go.wp_at_zero Go.wp_at_succ
theorem info3 : (Try.prog.info? 3).map (fun i => (i.zero, i.size, i.bytes)) = some (some (.int .i64 0), 1, 8) := by kernel_rfl
theorem asserts (n : Int) (w : World) : (Instr.typeAssert (.iface 3 (.int .i64 n)) 20 3 false).run Try.prog w = .ok (.int .i64 n) w := by kernel_rfl
/-- The world behind a Push onto an empty heap that lies at a. -/
def Pushed (P : Nat) (w w' : World) : Prop := ∃ g cap w1, Below w.heap.size w w1 ∧ w' = w1.setCell ⟨P, 0, none⟩ (.slice (some ⟨g, 0, none⟩) 1 cap)
set_option maxRecDepth 100000 in
set_option maxHeartbeats 3200000 in
theorem npush_any (P : Nat) (n : Int) (w : World) (hP : w.cell? ⟨P, 0, none⟩ = some (.slice none 0 0)) (hF : w.frozen? ⟨P, 0, none⟩ = false) :
    Calls Try.prog 129 #[.pointer (some ⟨P, 0, none⟩), .iface 3 (.int .i64 n)] w fun e w' => e = .returned (.tuple #[]) ∧ Pushed P w w' := by
  obtain ⟨i0, hi0, hz0, hz1, hz2⟩ := info_parts info3
  have lP := World.block_lt_of_cell? w _ hP
  have hown : w.ownsRow w.heap.size 3 1 (.slice none 0 0) 0 [] := World.ownsRow_nil _ _ _ _
  have hta := asserts n
  have hfa : ∀ o : Obj, (w.alloc o).frozen? ⟨P, 0, none⟩ = false := fun o => (((Below.refl w.heap.size w).alloc (Nat.le_refl _) o).frozen (p := ⟨P, 0, none⟩) lP).trans hF
  have hfb : ∀ o : Obj, (w.alloc o).drew.frozen? ⟨P, 0, none⟩ = false := fun o => (((Below.refl w.heap.size w).alloc (Nat.le_refl _) o).drew.frozen (p := ⟨P, 0, none⟩) lP).trans hF
  go_enter Try.func129, Try.ntmps129
  go_wp2_with fail
  go_region_law
    (refine step_append_lies _ (by rfl) _ _ _ (by rfl) w.heap.size 3 i0 _ 1 8 Try.underlying146 hi0 hz0 hz1 hz2 rfl (by omega) (.slice none 0 0) 0 [] (by rfl) ((hown.alloc _).drew)
        ⟨w.heap.size, 0, none⟩ 1 1 [.int .i64 n] (by rfl) (by rfl) (World.news_of_block (cs := #[.int .i64 n]) (t := 3) (fr := (0, 0)) (heap_alloc_new w _)) (by simp [Value.oneCell'])
        (by omega) (by unfold maxLen; omega) (by omega) (by simp) (w.heap.size + 1) (by simp) ?_
     intro gg cap w1 hown1 hgrow hat hlt
     have hc1 : w1.cell? ⟨P, 0, none⟩ = some (.slice none 0 0) := by rw [hgrow.cell_far _ (by simp; omega) (by simp [Value.ownBlock])]; exact ((((Below.refl w.heap.size w).alloc (Nat.le_refl _) _).drew.cell (p := ⟨P, 0, none⟩) lP)).trans hP
     have hf1 : w1.frozen? ⟨P, 0, none⟩ = false := by rw [hgrow.frozen_far _ (by simp; omega) (by simp [Value.ownBlock])]; exact hfb _)
  all_goals
    go_wp2
    have hb : Below w.heap.size w w1 := (((Below.refl w.heap.size w).alloc (Nat.le_refl _) _).drew).grown hgrow (by simp) (by simp [Value.ownBlock])
    first
      | (go_end0; exact ⟨rfl, gg, cap, w1, hb, rfl⟩)
      | (go_ret; exact ⟨rfl, gg, cap, w1, hb, rfl⟩)
      | (exact bodyPost_end0 ⟨rfl, gg, cap, w1, hb, rfl⟩)
end Go.Proofs.Ytndmpdpmfieacaa

namespace Go.Proofs.Ytndmpdpmfieacaa
open Go.RowKit Go.WideShapes Go.ChangeShapes
set_option linter.all false
theorem Pushed.cell {P : Nat} {w w' : World} {v : Value} (hP : w.cell? ⟨P, 0, none⟩ = some v) (h : Pushed P w w') : ∃ g cap, w'.cell? ⟨P, 0, none⟩ = some (.slice (some ⟨g, 0, none⟩) 1 cap) := by
  obtain ⟨g, cap, w1, hb, rfl⟩ := h
  have hc := (hb.cell (p := ⟨P, 0, none⟩) (World.block_lt_of_cell? w _ hP)).trans hP
  exact ⟨g, cap, World.cell?_setCell_same _ _ _ hc⟩
theorem m_push (a : Addr) (w : World) : (method 299 150 (.pointer (some a)) "Push").run Try.prog w = .ok (129, .pointer (some a)) w := by kernel_rfl
theorem i37 : ((Try.prog.info? 150).map fun i => (i.methods.find? (·.name == "Len")).map fun m => (m.func, m.path)) = some (some (some (125, false), #[])) := by kernel_rfl
theorem load33 (a : Addr) (x : Option Addr) (n c : Nat) (w : World) (h : w.cell? a = some (.slice x n c)) : (loadVar 146 a).run Try.prog w = .ok (.slice x n c) w := by
  have hr : (Instr.loadAt 146 (.pointer (some a))).run Try.prog w = .ok (.slice x n c) w := by go_simp
  simpa [Instr.loadAt, Instr.sureAddr] using hr
theorem meth_val {P : Program} {n t e : Nat} {i : TypeInfo} {m : _} {f : FuncId} {name : String} {a : Addr} {x : Value} {w : World} (hi : P.info? t = some i) (hm : i.methods.find? (·.name == name) = some m) (hpe : m.path = #[]) (hfn : m.func = some (f, false))
    (hu : P.underlying t = some (.pointer e)) (hl : (loadVar e a).run P w = .ok x w) : (method (n + 1) t (.pointer (some a)) name).run P w = .ok (f, x) w := by
  have hp' : m.path.toList = [] := by rw [hpe]
  have hssa : ∀ nm : String, (Builtin.ssaWrapNilChk_ #[t] t #[.pointer (some a), strVal "", strVal nm]).run P w = .ok (.pointer (some a)) w := fun nm => rfl
  simp [method, run_typeInfo w hi, hm, hp', hpe, follow, hfn, receiverAt, run_underlying hu, Place.get, hssa, asAddr, hl]
theorem m_len (a : Addr) (x : Option Addr) (n c : Nat) (w : World) (h : w.cell? a = some (.slice x n c)) : (method 299 150 (.pointer (some a)) "Len").run Try.prog w = .ok (125, .slice x n c) w := by
  have hl := load33 a x n c w h
  have hu : Try.prog.underlying 150 = some (.pointer 146) := by kernel_rfl
  have hi := i37
  cases hin : Try.prog.info? 150 with
  | none => rw [hin] at hi; cases hi
  | some i =>
    rw [hin] at hi
    simp only [Option.map_some, Option.some.injEq] at hi
    cases hm : i.methods.find? (·.name == "Len") with
    | none => rw [hm] at hi; cases hi
    | some m =>
      rw [hm] at hi
      simp only [Option.map_some, Option.some.injEq, Prod.mk.injEq] at hi
      exact meth_val hin hm hi.2 hi.1 hu hl
set_option maxRecDepth 100000 in
set_option maxHeartbeats 400000 in
theorem up0 (a : Addr) (w : World) : Calls Try.prog 97 #[.iface 150 (.pointer (some a)), .int .i64 0] w fun e w' => e = .returned (.tuple #[]) ∧ w' = w := by
  go_enter Try.func97, Try.ntmps97
  go_wp2
  go_loop [1] (fun j => j = .int .i64 0) (fun _ => 0)
  case atStart => rfl
  case round =>
    subst hrel
    go_wp2
    go_end0
    exact ⟨rfl, rfl⟩
set_option maxRecDepth 100000 in
set_option maxHeartbeats 400000 in
theorem hpush_any (P : Nat) (n : Int) (w : World) (hP : w.cell? ⟨P, 0, none⟩ = some (.slice none 0 0)) (hF : w.frozen? ⟨P, 0, none⟩ = false) :
    Calls Try.prog 77 #[.iface 150 (.pointer (some ⟨P, 0, none⟩)), .iface 3 (.int .i64 n)] w fun e w' => e = .returned (.tuple #[]) ∧ Pushed P w w' := by
  have hm1 := m_push ⟨P, 0, none⟩
  go_enter Try.func77, Try.ntmps77
  go_wp2_with (first
    | (go_at_call 129; refine (npush_any P n _ hP hF).mono ?_; rintro e w1 ⟨rfl, hq⟩; obtain ⟨g, cap, hc⟩ := hq.cell hP; have hm2 := m_len _ _ _ _ _ hc)
    | (go_at_call 97; refine (up0 _ _).mono ?_; rintro e w2 ⟨rfl, rfl⟩)
    | go_in
    | fail)
  go_end0
  exact ⟨rfl, hq⟩
end Go.Proofs.Ytndmpdpmfieacaa

namespace Go.Proofs.Ytndmpdpmfieacaa
open Go.RowKit Go.WideShapes Go.ChangeShapes
set_option linter.all false
attribute [local go_sem ↓] Go.wp_at_zero Go.wp_at_succ
/-- Behind a Push of n onto the row v of P. -/
def PushedOn (P B m : Nat) (v : Value) (xs : List Value) (n : Int) (w w' : World) : Prop :=
  ∃ g cap w1, w1.ownsRow B 3 1 (.slice (some ⟨g, 0, none⟩) (m + 1) cap) (m + 1) (xs ++ [.int .i64 n]) ∧ w.grownBy w1 v.ownBlock ∧ (v.ownBlock = some g ∨ w.heap.size ≤ g) ∧ w' = w1.setCell ⟨P, 0, none⟩ (.slice (some ⟨g, 0, none⟩) (m + 1) cap)
theorem grown_alloc {w w1 : World} {o : Obj} {row : Option Nat} (h : (w.alloc o).drew.grownBy w1 row) : w.grownBy w1 row :=
  ⟨h.os, h.tape, h.output, by have := h.size; simp at this; omega, fun k hk hr => (h.block k (by simp; omega) hr).trans (Below.heap_alloc w o k hk)⟩
set_option maxRecDepth 100000 in
set_option maxHeartbeats 3200000 in
theorem npush_own (P B m c : Nat) (A : Option Addr) (xs : List Value) (n : Int) (w : World) (hm : m < 1000000) (hPB : P < B) (hP : w.cell? ⟨P, 0, none⟩ = some (.slice A m c)) (hF : w.frozen? ⟨P, 0, none⟩ = false)
    (hown : w.ownsRow B 3 1 (.slice A m c) m xs) (hBw : B ≤ w.heap.size) :
    Calls Try.prog 129 #[.pointer (some ⟨P, 0, none⟩), .iface 3 (.int .i64 n)] w fun e w' => e = .returned (.tuple #[]) ∧ PushedOn P B m (.slice A m c) xs n w w' := by
  obtain ⟨i0, hi0, hz0, hz1, hz2⟩ := info_parts info3
  have lP := World.block_lt_of_cell? w _ hP
  have hrow : some P ≠ (Value.slice A m c).ownBlock := by
    intro e
    have := (hown.lt P e.symm).1
    omega
  have hta := asserts n
  have hpa : ∀ o : Obj, (w.alloc o).drew.cell? ⟨P, 0, none⟩ = some (.slice A m c) := fun o => (((Below.refl w.heap.size w).alloc (Nat.le_refl _) o).drew.cell (p := ⟨P, 0, none⟩) lP).trans hP
  have hfa : ∀ o : Obj, (w.alloc o).frozen? ⟨P, 0, none⟩ = false := fun o => (((Below.refl w.heap.size w).alloc (Nat.le_refl _) o).frozen (p := ⟨P, 0, none⟩) lP).trans hF
  have hfb : ∀ o : Obj, (w.alloc o).drew.frozen? ⟨P, 0, none⟩ = false := fun o => (((Below.refl w.heap.size w).alloc (Nat.le_refl _) o).drew.frozen (p := ⟨P, 0, none⟩) lP).trans hF
  have HR := Lib.hid hrow
  clear hrow
  go_enter Try.func129, Try.ntmps129
  go_wp2_with fail
  go_region_law
    (refine step_append_lies _ (by rfl) _ _ _ (by rfl) B 3 i0 _ 1 8 Try.underlying146 hi0 hz0 hz1 hz2 rfl (by omega) (.slice A m c) m xs (by rfl) ((hown.alloc _).drew)
        ⟨w.heap.size, 0, none⟩ 1 1 [.int .i64 n] (by rfl) (by rfl) (World.news_of_block (cs := #[.int .i64 n]) (t := 3) (fr := (0, 0)) (heap_alloc_new w _)) (by simp [Value.oneCell'])
        (by omega) (by unfold maxLen; omega) (by omega) (by simp; omega) (w.heap.size + 1) (by simp) ?_
     intro gg cap w1 hown1 hgrow hat hlt
     have hc1 : w1.cell? ⟨P, 0, none⟩ = some (.slice A m c) := by rw [hgrow.cell_far _ (by simp; omega) HR.out]; exact hpa _
     have hf1 : w1.frozen? ⟨P, 0, none⟩ = false := by rw [hgrow.frozen_far _ (by simp; omega) HR.out]; exact hfb _)
  all_goals
    have G := grown_alloc hgrow
    have HO := Lib.hid hown1
    clear hown1 hgrow
    go_wp2
    have K : PushedOn P B m (.slice A m c) xs n w (w1.setCell ⟨P, 0, none⟩ (.slice (some ⟨gg, 0, none⟩) (m + 1) cap)) := ⟨gg, cap, w1, HO.out, G, (by rcases hat with h | h; exact .inl h; exact .inr (by omega)), rfl⟩
    first
      | (go_end0; exact ⟨rfl, K⟩)
      | (go_ret; exact ⟨rfl, K⟩)
      | (exact bodyPost_end0 ⟨rfl, K⟩)
end Go.Proofs.Ytndmpdpmfieacaa

namespace Go.Proofs.Ytndmpdpmfieacaa
open Go.RowKit Go.WideShapes Go.ChangeShapes
set_option linter.all false
/-- The row at g holds xs, and may be written. -/
structure Row (g : Nat) (xs : List Int) (w : World) : Prop where
  cell : ∀ m, m < xs.length → w.cell? ⟨g, m, none⟩ = some (.int .i64 (xs.getD m 0))
  free : ∀ m, m < xs.length → w.frozen? ⟨g, m, none⟩ = false
set_option maxRecDepth 100000 in
set_option maxHeartbeats 400000 in
theorem less_any (g n c : Nat) (xs : List Int) (i j : Nat) (w : World) (hn : xs.length = n) (hi : i < n) (hj : j < n) (h : Row g xs w) :
    Calls Try.prog 126 #[.slice (some ⟨g, 0, none⟩) n c, .int .i64 i, .int .i64 j] w fun e w' => e = .returned (.bool (decide (xs.getD i 0 < xs.getD j 0))) ∧ w' = w.drew := by
  have ci := h.cell i (by omega)
  have cj := h.cell j (by omega)
  have hi0 : (0 : Int) ≤ (i : Int) := by omega
  have hi1 : (i : Int) < (n : Int) := by omega
  have hj0 : (0 : Int) ≤ (j : Int) := by omega
  have hj1 : (j : Int) < (n : Int) := by omega
  go_enter Try.func126, Try.ntmps126
  go_wp2
  go_region
  all_goals
    go_wp2
    go_ret
    exact ⟨by simp [hi, hj, hn], rfl⟩
set_option maxRecDepth 100000 in
set_option maxHeartbeats 400000 in
theorem swap_any (g n c : Nat) (xs : List Int) (i j : Nat) (w : World) (hn : xs.length = n) (hi : i < n) (hj : j < n) (h : Row g xs w) :
    Calls Try.prog 127 #[.slice (some ⟨g, 0, none⟩) n c, .int .i64 i, .int .i64 j] w fun e w' => e = .returned (.tuple #[]) ∧ w' = (w.drew.setCell ⟨g, i, none⟩ (.int .i64 (xs.getD j 0))).setCell ⟨g, j, none⟩ (.int .i64 (xs.getD i 0)) := by
  have ci := h.cell i (by omega)
  have cj := h.cell j (by omega)
  have fi := h.free i (by omega)
  have fj := h.free j (by omega)
  have hi0 : (0 : Int) ≤ (i : Int) := by omega
  have hi1 : (i : Int) < (n : Int) := by omega
  have hj0 : (0 : Int) ≤ (j : Int) := by omega
  have hj1 : (j : Int) < (n : Int) := by omega
  have hix : i < xs.length := by omega
  have hjx : j < xs.length := by omega
  obtain ⟨v, cs⟩ : ∃ v, (w.setCell ⟨g, i, none⟩ (.int .i64 xs[j])).cell? ⟨g, j, none⟩ = some v := by
    by_cases e : i = j
    · subst e; exact ⟨_, World.cell?_setCell_same _ _ _ ci⟩
    · exact ⟨_, (World.cell?_setCell_other _ _ _ _ (by simp [e])).trans cj⟩
  go_enter Try.func127, Try.ntmps127
  go_wp2
  go_region
  all_goals
    go_wp2
    go_end0
    exact ⟨rfl, by simp [hix, hjx]; rfl⟩
end Go.Proofs.Ytndmpdpmfieacaa

namespace Go.Proofs.Ytndmpdpmfieacaa
open Go.RowKit Go.WideShapes Go.ChangeShapes
set_option linter.all false
theorem m_pop (a : Addr) (w : World) : (method 299 150 (.pointer (some a)) "Pop").run Try.prog w = .ok (128, .pointer (some a)) w := by kernel_rfl
theorem i37l : ((Try.prog.info? 150).map fun i => (i.methods.find? (·.name == "Less")).map fun m => (m.func, m.path)) = some (some (some (126, false), #[])) := by kernel_rfl
theorem i37s : ((Try.prog.info? 150).map fun i => (i.methods.find? (·.name == "Swap")).map fun m => (m.func, m.path)) = some (some (some (127, false), #[])) := by kernel_rfl
theorem m_of {nm : String} {f : FuncId} (hi : ((Try.prog.info? 150).map fun i => (i.methods.find? (·.name == nm)).map fun m => (m.func, m.path)) = some (some (some (f, false), #[])))
    (a : Addr) (x : Option Addr) (n c : Nat) (w : World) (h : w.cell? a = some (.slice x n c)) : (method 299 150 (.pointer (some a)) nm).run Try.prog w = .ok (f, .slice x n c) w := by
  have hl := load33 a x n c w h
  have hu : Try.prog.underlying 150 = some (.pointer 146) := by kernel_rfl
  cases hin : Try.prog.info? 150 with
  | none => rw [hin] at hi; cases hi
  | some i =>
    rw [hin] at hi
    simp only [Option.map_some, Option.some.injEq] at hi
    cases hm : i.methods.find? (·.name == nm) with
    | none => rw [hm] at hi; cases hi
    | some m =>
      rw [hm] at hi
      simp only [Option.map_some, Option.some.injEq, Prod.mk.injEq] at hi
      exact meth_val hin hm hi.2 hi.1 hu hl
theorem m_less (a : Addr) (x : Option Addr) (n c : Nat) (w : World) (h : w.cell? a = some (.slice x n c)) : (method 299 150 (.pointer (some a)) "Less").run Try.prog w = .ok (126, .slice x n c) w := m_of i37l a x n c w h
theorem m_swap (a : Addr) (x : Option Addr) (n c : Nat) (w : World) (h : w.cell? a = some (.slice x n c)) : (method 299 150 (.pointer (some a)) "Swap").run Try.prog w = .ok (127, .slice x n c) w := m_of i37s a x n c w h
def swp (xs : List Int) (i j : Nat) : List Int := (xs.set i (xs.getD j 0)).set j (xs.getD i 0)
theorem swp_len (xs : List Int) (i j : Nat) : (swp xs i j).length = xs.length := by simp [swp]
theorem Row.set {g : Nat} {xs : List Int} {w : World} (h : Row g xs w) (i : Nat) (v : Int) (hi : i < xs.length) : Row g (xs.set i v) (w.setCell ⟨g, i, none⟩ (.int .i64 v)) := by
  refine ⟨fun m hm => ?_, fun m hm => ?_⟩
  · rw [List.length_set] at hm
    by_cases e : i = m
    · subst e
      rw [World.cell?_setCell_same _ _ _ (h.cell i hi)]
      simp [List.getD_eq_getElem?_getD, hi]
    · rw [World.cell?_setCell_other _ _ _ _ (by simp [e]), h.cell m hm]
      simp [List.getD_eq_getElem?_getD, List.getElem?_set, e]
  · rw [List.length_set] at hm
    rw [World.frozen?_setCell]; exact h.free m hm
theorem Row.drew {g : Nat} {xs : List Int} {w : World} (h : Row g xs w) : Row g xs w.drew := ⟨h.cell, h.free⟩
theorem Row.swapped {g : Nat} {xs : List Int} {w : World} (h : Row g xs w) (i j : Nat) (hi : i < xs.length) (hj : j < xs.length) :
    Row g (swp xs i j) ((w.drew.setCell ⟨g, i, none⟩ (.int .i64 (xs.getD j 0))).setCell ⟨g, j, none⟩ (.int .i64 (xs.getD i 0))) :=
  (h.drew.set i _ hi).set j _ (by simpa using hj)
set_option maxRecDepth 100000 in
set_option maxHeartbeats 400000 in
theorem npop_any (P g n c : Nat) (xs : List Int) (w : World) (hn : xs.length = n + 1) (hnc : n + 1 ≤ c) (hP : w.cell? ⟨P, 0, none⟩ = some (.slice (some ⟨g, 0, none⟩) (n + 1) c)) (hF : w.frozen? ⟨P, 0, none⟩ = false) (h : Row g xs w) (hN : n < 1000000) :
    Calls Try.prog 128 #[.pointer (some ⟨P, 0, none⟩)] w fun e w' => e = .returned (.iface 3 (.int .i64 (xs.getD n 0))) ∧ w' = w.setCell ⟨P, 0, none⟩ (.slice (some ⟨g, 0, none⟩) n c) := by
  have cn := h.cell n (by omega)
  have hn0 : (0 : Int) ≤ (n : Int) := by omega
  have hn1 : (n : Int) < ((n + 1 : Nat) : Int) := by omega
  have hn2 : (n : Int) ≤ (c : Int) := by omega
  go_enter Try.func128, Try.ntmps128
  go_wp2
  go_ret
  exact ⟨by simp [hn], rfl⟩
end Go.Proofs.Ytndmpdpmfieacaa

namespace Go.Proofs.Ytndmpdpmfieacaa
open Go.RowKit Go.WideShapes Go.ChangeShapes
set_option linter.all false
/-- Only block g has turned. -/
structure OnlyR (g : Nat) (w w' : World) : Prop where
  os : w'.os = w.os
  tape : w'.tape = w.tape
  output : w'.output = w.output
  size : w'.heap.size = w.heap.size
  block : ∀ b, b ≠ g → w'.heap[b]? = w.heap[b]?
  own : ∀ B n c xs, w.ownsRow B 3 1 (.slice (some ⟨g, 0, none⟩) n c) n xs → ∃ ys, w'.ownsRow B 3 1 (.slice (some ⟨g, 0, none⟩) n c) n ys
theorem OnlyR.refl (g : Nat) (w : World) : OnlyR g w w := ⟨rfl, rfl, rfl, rfl, fun _ _ => rfl, fun _ _ _ xs h => ⟨xs, h⟩⟩
theorem OnlyR.drew {g : Nat} {w w' : World} (h : OnlyR g w w') : OnlyR g w w'.drew := ⟨h.os, h.tape, h.output, h.size, h.block, fun B n c xs k => h.own B n c xs k⟩
theorem OnlyR.setCell {g : Nat} {w w' : World} (h : OnlyR g w w') (i : Nat) (v : Value) : OnlyR g w (w'.setCell ⟨g, i, none⟩ v) :=
  ⟨h.os, h.tape, h.output, by simpa using h.size, fun b hb => (Below.heap_setCell w' _ _ b hb).trans (h.block b hb), fun B n c xs k => by
    obtain ⟨ys, hy⟩ := h.own B n c xs k
    exact ⟨_, (hy.stored i v).1⟩⟩
theorem OnlyR.cell {g : Nat} {w w' : World} (h : OnlyR g w w') {p : Addr} (hp : p.block ≠ g) : w'.cell? p = w.cell? p := World.cell?_of_block (w := w) (h.block p.block hp)
/-- What up makes of a row. -/
def upF (xs : List Int) (j : Nat) : List Int :=
  if h : 0 < j then
    if xs.getD j 0 < xs.getD ((j - 1) / 2) 0 then upF (swp xs ((j - 1) / 2) j) ((j - 1) / 2) else xs
  else xs
termination_by j
decreasing_by omega
theorem upF_zero (xs : List Int) : upF xs 0 = xs := by rw [upF]; simp
theorem upF_stop (xs : List Int) (m : Nat) (h : ¬ xs.getD (m + 1) 0 < xs.getD (m / 2) 0) : upF xs (m + 1) = xs := by rw [upF]; simp only [Nat.add_sub_cancel]; rw [dif_pos (by omega), if_neg h]
theorem upF_go (xs : List Int) (m : Nat) (h : xs.getD (m + 1) 0 < xs.getD (m / 2) 0) : upF xs (m + 1) = upF (swp xs (m / 2) (m + 1)) (m / 2) := by rw [upF]; simp only [Nat.add_sub_cancel]; rw [dif_pos (by omega), if_pos h]
set_option maxRecDepth 100000 in
set_option maxHeartbeats 400000 in
theorem up_any (P g n c : Nat) (xs : List Int) (j0 : Nat) (w : World) (hj : j0 < n) (hn : xs.length = n) (hN : n < 1000000) (hPg : P ≠ g) (hP : w.cell? ⟨P, 0, none⟩ = some (.slice (some ⟨g, 0, none⟩) n c)) (h : Row g xs w) :
    Calls Try.prog 97 #[.iface 150 (.pointer (some ⟨P, 0, none⟩)), .int .i64 j0] w fun e w' => e = .returned (.tuple #[]) ∧ Row g (upF xs j0) w' ∧ OnlyR g w w' := by
  go_enter Try.func97, Try.ntmps97
  go_wp2
  go_loopw [1] (fun v wr => ∃ (j : Nat) (ys : List Int), v = .int .i64 j ∧ j < n ∧ Hid (ys.length = n) ∧ Hid (upF ys j = upF xs j0) ∧ Row g ys wr ∧ OnlyR g w wr) (fun v _ => (intOf v).toNat)
  case atStart => exact ⟨j0, xs, rfl, hj, hn, rfl, h, OnlyR.refl _ _⟩
  case round =>
    obtain ⟨j, ys, rfl, hjn, HL, HU, HR, HO⟩ := hrel
    have hc : wr.cell? ⟨P, 0, none⟩ = some (.slice (some ⟨g, 0, none⟩) n c) := (HO.cell hPg).trans hP
    cases j with
    | zero =>
      go_wp2
      go_end0
      exact ⟨rfl, by have := HU.out; rw [upF_zero] at this; rw [← this]; exact HR, HO⟩
    | succ m =>
      have hm1 := m_less _ _ _ _ _ hc
      have L := less_any g n c ys (m + 1) (m / 2) wr HL.out (by omega) (by omega) HR
      have S := swap_any g n c ys (m / 2) (m + 1) wr.drew HL.out (by omega) (by omega) HR.drew
      have hcd : wr.drew.cell? ⟨P, 0, none⟩ = some (.slice (some ⟨g, 0, none⟩) n c) := hc
      have hm2 := m_swap _ _ _ _ _ hcd
      have hq : ((m / 2 : Nat) : Int) = (m : Int) / 2 := by omega
      have hs : ((m + 1 : Nat) : Int) = (m : Int) + 1 := by omega
      rw [hq, hs] at L S
      have hne : ((m : Int) / 2 == (m : Int) + 1) = false := by simp; omega
      have hne2 : ¬ ((m : Int) / 2 = (m : Int) + 1) := by omega
      by_cases hb : ys.getD (m + 1) 0 < ys.getD (m / 2) 0
      · rw [decide_eq_true hb] at L
        go_wp2_with (first
          | (go_at_call 126; refine L.mono ?_; rintro e w1 ⟨rfl, rfl⟩)
          | (go_at_call 127; refine S.mono ?_; rintro e w1 ⟨rfl, rfl⟩)
          | fail)
        go_roundw
        case rel =>
          exact ⟨m / 2, swp ys (m / 2) (m + 1), by rw [hq], by omega, by rw [show Hid _ = _ from rfl, swp_len]; exact HL.out, by have := HU.out; rw [upF_go _ _ (by omega)] at this; exact this,
            HR.drew.swapped (m / 2) (m + 1) (by have := HL.out; omega) (by have := HL.out; omega), ((HO.drew.drew.setCell _ _).setCell _ _)⟩
        case measure => simp only [intOf]; omega
      · rw [decide_eq_false hb] at L
        go_wp2_with (first
          | (go_at_call 126; refine L.mono ?_; rintro e w1 ⟨rfl, rfl⟩)
          | fail)
        go_end0
        exact ⟨rfl, by have := HU.out; rw [upF_stop _ _ (by omega)] at this; rw [← this]; exact HR.drew, HO.drew⟩
end Go.Proofs.Ytndmpdpmfieacaa

namespace Go.Proofs.Ytndmpdpmfieacaa
open Go.RowKit Go.WideShapes Go.ChangeShapes
set_option linter.all false
/-- The smaller child of i among the first n. -/
def kid (xs : List Int) (i n : Nat) : Nat := if 2 * i + 2 < n ∧ xs.getD (2 * i + 2) 0 < xs.getD (2 * i + 1) 0 then 2 * i + 2 else 2 * i + 1
theorem kid_gt (xs : List Int) (i n : Nat) : i < kid xs i n := by unfold kid; split <;> omega
theorem kid_lt (xs : List Int) (i n : Nat) (h : 2 * i + 1 < n) : kid xs i n < n := by unfold kid; split <;> omega
/-- What down makes of a row. -/
def downF (xs : List Int) (i n : Nat) : List Int :=
  if h : 2 * i + 1 < n then
    if xs.getD (kid xs i n) 0 < xs.getD i 0 then downF (swp xs i (kid xs i n)) (kid xs i n) n else xs
  else xs
termination_by n - i
decreasing_by have := kid_gt xs i n; omega
theorem downF_end (xs : List Int) (i n : Nat) (h : ¬ 2 * i + 1 < n) : downF xs i n = xs := by rw [downF]; rw [dif_neg h]
theorem downF_stop (xs : List Int) (i n : Nat) (h : 2 * i + 1 < n) (h2 : ¬ xs.getD (kid xs i n) 0 < xs.getD i 0) : downF xs i n = xs := by rw [downF]; rw [dif_pos h, if_neg h2]
theorem downF_go (xs : List Int) (i n : Nat) (h : 2 * i + 1 < n) (h2 : xs.getD (kid xs i n) 0 < xs.getD i 0) : downF xs i n = downF (swp xs i (kid xs i n)) (kid xs i n) n := by rw [downF]; rw [dif_pos h, if_pos h2]
theorem less_i (g n c : Nat) (xs : List Int) {a b : Int} (i j : Nat) (w : World) (ha : a = i) (hb : b = j) (hn : xs.length = n) (hi : i < n) (hj : j < n) (h : Row g xs w) (v : Bool) (hv : decide (xs.getD i 0 < xs.getD j 0) = v) :
    Calls Try.prog 126 #[.slice (some ⟨g, 0, none⟩) n c, .int .i64 a, .int .i64 b] w fun e w' => e = .returned (.bool v) ∧ w' = w.drew := by
  subst ha hb hv; exact less_any g n c xs i j w hn hi hj h
theorem swap_i (g n c : Nat) (xs : List Int) {a b : Int} (i j : Nat) (w : World) (ha : a = i) (hb : b = j) (hn : xs.length = n) (hi : i < n) (hj : j < n) (h : Row g xs w) :
    Calls Try.prog 127 #[.slice (some ⟨g, 0, none⟩) n c, .int .i64 a, .int .i64 b] w fun e w' => e = .returned (.tuple #[]) ∧ Row g (swp xs i j) w' ∧ OnlyR g w w' := by
  subst ha hb
  refine (swap_any g n c xs i j w hn hi hj h).mono ?_
  rintro e w' ⟨rfl, rfl⟩
  exact ⟨rfl, h.swapped i j (by omega) (by omega), ((OnlyR.refl g w).drew.setCell _ _).setCell _ _⟩
theorem OnlyR.trans {g : Nat} {a b c : World} (h : OnlyR g a b) (k : OnlyR g b c) : OnlyR g a c :=
  ⟨k.os.trans h.os, k.tape.trans h.tape, k.output.trans h.output, k.size.trans h.size, fun i hi => (k.block i hi).trans (h.block i hi), fun B n c xs o => by
    obtain ⟨ys, hy⟩ := h.own B n c xs o
    exact k.own B n c ys hy⟩
set_option maxRecDepth 100000 in
set_option maxHeartbeats 4000000 in
theorem down_any (P g n c m : Nat) (xs : List Int) (i0 : Nat) (w : World) (hm : m ≤ n) (hj : i0 ≤ m) (hn : xs.length = n) (hN : n < 1000000) (hPg : P ≠ g) (hP : w.cell? ⟨P, 0, none⟩ = some (.slice (some ⟨g, 0, none⟩) n c)) (h : Row g xs w) :
    Calls Try.prog 98 #[.iface 150 (.pointer (some ⟨P, 0, none⟩)), .int .i64 i0, .int .i64 m] w fun e w' => (∃ b, e = .returned (.bool b)) ∧ Row g (downF xs i0 m) w' ∧ OnlyR g w w' := by
  go_enter Try.func98, Try.ntmps98
  go_wp2
  go_loopw [7] (fun v wr => ∃ (j : Nat) (ys : List Int), v = .int .i64 j ∧ j ≤ m ∧ Hid (ys.length = n) ∧ Hid (downF ys j m = downF xs i0 m) ∧ Row g ys wr ∧ OnlyR g w wr) (fun v _ => m - (intOf v).toNat)
  case atStart => exact ⟨i0, xs, rfl, hj, hn, rfl, h, OnlyR.refl _ _⟩
  case round =>
    obtain ⟨j, ys, rfl, hjn, HL, HU, HR, HO⟩ := hrel
    have hc : wr.cell? ⟨P, 0, none⟩ = some (.slice (some ⟨g, 0, none⟩) n c) := (HO.cell hPg).trans hP
    by_cases h1 : 2 * j + 1 < m
    · have h1' : ¬ ((m : Int) ≤ 2 * (j : Int) + 1) := by omega
      have h1'' : ¬ (2 * (j : Int) + 1 < 0) := by omega
      have hm1 := m_less _ _ _ _ _ hc
      have hc2 : wr.drew.cell? ⟨P, 0, none⟩ = some (.slice (some ⟨g, 0, none⟩) n c) := hc
      have hc3 : wr.drew.drew.cell? ⟨P, 0, none⟩ = some (.slice (some ⟨g, 0, none⟩) n c) := hc
      have hm2 := m_less _ _ _ _ _ hc2
      have hm3 := m_swap _ _ _ _ _ hc2
      have hm4 := m_swap _ _ _ _ _ hc3
      have HK := kid_lt ys j m h1
      have HG := kid_gt ys j m
      have F1 : Hid True := trivial
      have KL : Hid (kid ys j m < m ∧ j < kid ys j m) := ⟨HK, HG⟩
      clear HK HG
      by_cases h2 : 2 * j + 2 < m
      · have h2' : 2 * (j : Int) + 1 + 1 < (m : Int) := by omega
        have h2'' : 2 * (j : Int) + 2 < (m : Int) := by omega
        by_cases h3 : ys.getD (2 * j + 2) 0 < ys.getD (2 * j + 1) 0
        · have hk : kid ys j m = 2 * j + 2 := by unfold kid; rw [if_pos ⟨h2, h3⟩]
          have hd3 : decide (ys.getD (2 * j + 2) 0 < ys.getD (2 * j + 1) 0) = true := decide_eq_true h3
          by_cases h4 : ys.getD (2 * j + 2) 0 < ys.getD j 0
          · skip
            have hd4 : decide (ys.getD (2 * j + 2) 0 < ys.getD j 0) = true := decide_eq_true h4
            have HH : Hid (downF (swp ys j (2 * j + 2)) (2 * j + 2) m = downF xs i0 m) := by have := HU.out; rw [downF_go _ _ _ h1 (by rw [hk]; exact h4), hk] at this; exact this
            clear h3 h4 hk
            go_wp2_with (first
              | (go_at_call 126; clear F1; refine (less_i g n c ys (2 * j + 2) (2 * j + 1) _ (by omega) (by omega) HL.out (by omega) (by omega) HR true hd3).mono ?_; rintro e w1 ⟨rfl, rfl⟩)
              | (go_at_call 126; refine (less_i g n c ys (2 * j + 2) j _ (by omega) (by omega) HL.out (by omega) (by omega) HR.drew true hd4).mono ?_; rintro e w1 ⟨rfl, rfl⟩)
              | (go_at_call 127; refine (swap_i g n c ys j (2 * j + 2) _ (by omega) (by omega) HL.out (by omega) (by omega) HR.drew.drew).mono ?_; rintro e w1 ⟨rfl, HR1, HO1⟩)
              | fail)
            exact ⟨⟨2 * j + 2, swp ys j (2 * j + 2), by congr 1 <;> omega, by omega, (swp_len _ _ _).trans HL.out, HH, HR1, (HO.drew.drew).trans HO1⟩, by simp only [intOf]; omega⟩
          · skip
            have hd4 : decide (ys.getD (2 * j + 2) 0 < ys.getD j 0) = false := decide_eq_false h4
            have HH : Hid (ys = downF xs i0 m) := by have := HU.out; rw [downF_stop _ _ _ h1 (by rw [hk]; exact h4)] at this; exact this
            clear h3 h4 hk
            go_wp2_with (first
              | (go_at_call 126; clear F1; refine (less_i g n c ys (2 * j + 2) (2 * j + 1) _ (by omega) (by omega) HL.out (by omega) (by omega) HR true hd3).mono ?_; rintro e w1 ⟨rfl, rfl⟩)
              | (go_at_call 126; refine (less_i g n c ys (2 * j + 2) j _ (by omega) (by omega) HL.out (by omega) (by omega) HR.drew false hd4).mono ?_; rintro e w1 ⟨rfl, rfl⟩)
              | fail)
            go_ret
            exact ⟨⟨_, rfl⟩, by rw [← HH.out]; exact HR.drew.drew, HO.drew.drew⟩
        · have hk : kid ys j m = 2 * j + 1 := by unfold kid; rw [if_neg (fun h => h3 h.2)]
          have hd3 : decide (ys.getD (2 * j + 2) 0 < ys.getD (2 * j + 1) 0) = false := decide_eq_false h3
          by_cases h4 : ys.getD (2 * j + 1) 0 < ys.getD j 0
          · skip
            have hd4 : decide (ys.getD (2 * j + 1) 0 < ys.getD j 0) = true := decide_eq_true h4
            have HH : Hid (downF (swp ys j (2 * j + 1)) (2 * j + 1) m = downF xs i0 m) := by have := HU.out; rw [downF_go _ _ _ h1 (by rw [hk]; exact h4), hk] at this; exact this
            clear h3 h4 hk
            go_wp2_with (first
              | (go_at_call 126; clear F1; refine (less_i g n c ys (2 * j + 2) (2 * j + 1) _ (by omega) (by omega) HL.out (by omega) (by omega) HR false hd3).mono ?_; rintro e w1 ⟨rfl, rfl⟩)
              | (go_at_call 126; refine (less_i g n c ys (2 * j + 1) j _ (by omega) (by omega) HL.out (by omega) (by omega) HR.drew true hd4).mono ?_; rintro e w1 ⟨rfl, rfl⟩)
              | (go_at_call 127; refine (swap_i g n c ys j (2 * j + 1) _ (by omega) (by omega) HL.out (by omega) (by omega) HR.drew.drew).mono ?_; rintro e w1 ⟨rfl, HR1, HO1⟩)
              | fail)
            exact ⟨⟨2 * j + 1, swp ys j (2 * j + 1), by congr 1 <;> omega, by omega, (swp_len _ _ _).trans HL.out, HH, HR1, (HO.drew.drew).trans HO1⟩, by simp only [intOf]; omega⟩
          · skip
            have hd4 : decide (ys.getD (2 * j + 1) 0 < ys.getD j 0) = false := decide_eq_false h4
            have HH : Hid (ys = downF xs i0 m) := by have := HU.out; rw [downF_stop _ _ _ h1 (by rw [hk]; exact h4)] at this; exact this
            clear h3 h4 hk
            go_wp2_with (first
              | (go_at_call 126; clear F1; refine (less_i g n c ys (2 * j + 2) (2 * j + 1) _ (by omega) (by omega) HL.out (by omega) (by omega) HR false hd3).mono ?_; rintro e w1 ⟨rfl, rfl⟩)
              | (go_at_call 126; refine (less_i g n c ys (2 * j + 1) j _ (by omega) (by omega) HL.out (by omega) (by omega) HR.drew false hd4).mono ?_; rintro e w1 ⟨rfl, rfl⟩)
              | fail)
            go_ret
            exact ⟨⟨_, rfl⟩, by rw [← HH.out]; exact HR.drew.drew, HO.drew.drew⟩
      · have h2' : ¬ 2 * (j : Int) + 1 + 1 < (m : Int) := by omega
        have h2'' : ¬ 2 * (j : Int) + 2 < (m : Int) := by omega
        have hk : kid ys j m = 2 * j + 1 := by unfold kid; rw [if_neg (fun h => h2 h.1)]
        by_cases h4 : ys.getD (2 * j + 1) 0 < ys.getD j 0
        · skip
          have hd4 : decide (ys.getD (2 * j + 1) 0 < ys.getD j 0) = true := decide_eq_true h4
          have HH : Hid (downF (swp ys j (2 * j + 1)) (2 * j + 1) m = downF xs i0 m) := by have := HU.out; rw [downF_go _ _ _ h1 (by rw [hk]; exact h4), hk] at this; exact this
          clear h4 hk
          go_wp2_with (first
            | (go_at_call 126; refine (less_i g n c ys (2 * j + 1) j _ (by omega) (by omega) HL.out (by omega) (by omega) HR true hd4).mono ?_; rintro e w1 ⟨rfl, rfl⟩)
            | (go_at_call 127; refine (swap_i g n c ys j (2 * j + 1) _ (by omega) (by omega) HL.out (by omega) (by omega) HR.drew).mono ?_; rintro e w1 ⟨rfl, HR1, HO1⟩)
            | fail)
          exact ⟨⟨2 * j + 1, swp ys j (2 * j + 1), by congr 1 <;> omega, by omega, (swp_len _ _ _).trans HL.out, HH, HR1, (HO.drew).trans HO1⟩, by simp only [intOf]; omega⟩
        · skip
          have hd4 : decide (ys.getD (2 * j + 1) 0 < ys.getD j 0) = false := decide_eq_false h4
          have HH : Hid (ys = downF xs i0 m) := by have := HU.out; rw [downF_stop _ _ _ h1 (by rw [hk]; exact h4)] at this; exact this
          clear h4 hk
          go_wp2_with (first
            | (go_at_call 126; refine (less_i g n c ys (2 * j + 1) j _ (by omega) (by omega) HL.out (by omega) (by omega) HR false hd4).mono ?_; rintro e w1 ⟨rfl, rfl⟩)
            | fail)
          go_ret
          exact ⟨⟨_, rfl⟩, by rw [← HH.out]; exact HR.drew, HO.drew⟩
    · have h1' : (m : Int) ≤ 2 * (j : Int) + 1 := by omega
      go_wp2
      go_ret
      exact ⟨⟨_, rfl⟩, by have := HU.out; rw [downF_end _ _ _ h1] at this; rw [← this]; exact HR, HO⟩
end Go.Proofs.Ytndmpdpmfieacaa

namespace Go.Proofs.Ytndmpdpmfieacaa
set_option linter.all false
theorem swp_perm (xs : List Int) (i j : Nat) (hi : i < xs.length) (hj : j < xs.length) : (swp xs i j).Perm xs := by
  unfold swp
  rw [List.getD_eq_getElem?_getD, List.getD_eq_getElem?_getD, List.getElem?_eq_getElem hi, List.getElem?_eq_getElem hj]
  exact List.set_set_perm hi hj
theorem upF_perm : ∀ (j : Nat) (xs : List Int), j < xs.length → (upF xs j).Perm xs := by
  intro j
  induction j using Nat.strongRecOn with
  | ind j ih =>
    intro xs h
    cases j with
    | zero => rw [upF_zero]
    | succ m =>
      by_cases hb : xs.getD (m + 1) 0 < xs.getD (m / 2) 0
      · rw [upF_go _ _ hb]
        exact (ih (m / 2) (by omega) _ (by rw [swp_len]; omega)).trans (swp_perm _ _ _ (by omega) h)
      · rw [upF_stop _ _ hb]
theorem downF_perm (n : Nat) : ∀ (k i : Nat) (xs : List Int), n - i ≤ k → n ≤ xs.length → (downF xs i n).Perm xs := by
  intro k
  induction k with
  | zero => intro i xs h1 h2; rw [downF_end _ _ _ (by omega)]
  | succ k ih =>
    intro i xs h1 h2
    by_cases h : 2 * i + 1 < n
    · have a := kid_lt xs i n h
      have b := kid_gt xs i n
      by_cases h3 : xs.getD (kid xs i n) 0 < xs.getD i 0
      · rw [downF_go _ _ _ h h3]
        exact (ih _ _ (by omega) (by rw [swp_len]; omega)).trans (swp_perm _ _ _ (by omega) (by omega))
      · rw [downF_stop _ _ _ h h3]
    · rw [downF_end _ _ _ h]
end Go.Proofs.Ytndmpdpmfieacaa

namespace Go.Proofs.Ytndmpdpmfieacaa
set_option linter.all false
/-- The first n of xs are a heap. -/
def Heaped (xs : List Int) (n : Nat) : Prop := ∀ i, 0 < i → i < n → xs.getD ((i - 1) / 2) 0 ≤ xs.getD i 0
theorem swp_getD (xs : List Int) (i j k : Nat) (hi : i < xs.length) (hj : j < xs.length) :
    (swp xs i j).getD k 0 = if k = j then xs.getD i 0 else if k = i then xs.getD j 0 else xs.getD k 0 := by
  unfold swp
  simp only [List.getD_eq_getElem?_getD, List.getElem?_set, List.length_set]
  by_cases h1 : k = j
  · subst h1; simp [hj]
  · by_cases h2 : k = i
    · subst h2; simp [h1, Ne.symm h1, hi]
    · simp [h1, h2, Ne.symm h1, Ne.symm h2]
theorem Heaped.least {xs : List Int} {n : Nat} (h : Heaped xs n) : ∀ i, i < n → xs.getD 0 0 ≤ xs.getD i 0 := by
  intro i
  induction i using Nat.strongRecOn with
  | ind i ih =>
    intro hi
    by_cases h0 : i = 0
    · subst h0; exact Int.le_refl _
    · exact Int.le_trans (ih ((i - 1) / 2) (by omega) (by omega)) (h i (by omega) hi)
/-- A heap but for the place j, which may be too small. -/
theorem upF_heaped : ∀ (j : Nat) (xs : List Int), j < xs.length →
    (∀ i, 0 < i → i < xs.length → i ≠ j → xs.getD ((i - 1) / 2) 0 ≤ xs.getD i 0) →
    (0 < j → ∀ i, 0 < i → i < xs.length → (i - 1) / 2 = j → xs.getD ((j - 1) / 2) 0 ≤ xs.getD i 0) →
    Heaped (upF xs j) xs.length := by
  intro j
  induction j using Nat.strongRecOn with
  | ind j ih =>
    intro xs hj h1 h2
    cases j with
    | zero => rw [upF_zero]; intro i a b; exact h1 i a b (by omega)
    | succ m =>
      by_cases hb : xs.getD (m + 1) 0 < xs.getD (m / 2) 0
      · rw [upF_go _ _ hb]
        have hm : m / 2 < xs.length := by omega
        have hl := swp_len xs (m / 2) (m + 1)
        rw [← hl]
        refine ih (m / 2) (by omega) _ (by rw [hl]; omega) ?_ ?_
        · intro i a b c
          rw [hl] at b
          rw [swp_getD _ _ _ _ hm hj, swp_getD _ _ _ _ hm hj]
          by_cases e1 : i = m + 1
          · subst e1
            simp only [Nat.add_sub_cancel]
            rw [if_neg (by omega), if_pos trivial, if_pos trivial]; omega
          · rw [if_neg e1, if_neg c]
            have hi := h1 i a b e1
            by_cases e2 : (i - 1) / 2 = m + 1
            · rw [if_pos e2]
              have := h2 (by omega) i a b e2
              simpa using this
            · rw [if_neg e2]
              by_cases e3 : (i - 1) / 2 = m / 2
              · rw [if_pos e3]; rw [e3] at hi; omega
              · rw [if_neg e3]; exact hi
        · intro h0 i a b c
          rw [hl] at b
          rw [swp_getD _ _ _ _ hm hj, swp_getD _ _ _ _ hm hj]
          rw [if_neg (by omega), if_neg (by omega)]
          have hp := h1 (m / 2) h0 hm (by omega)
          by_cases e1 : i = m + 1
          · rw [if_pos e1]; exact hp
          · rw [if_neg e1]
            by_cases e2 : i = m / 2
            · omega
            · rw [if_neg e2]
              have := h1 i a b e1
              rw [c] at this
              omega
      · rw [upF_stop _ _ hb]
        intro i a b
        by_cases e : i = m + 1
        · subst e; simp only [Nat.add_sub_cancel]; omega
        · exact h1 i a b e
theorem kid_le (xs : List Int) (i n k : Nat) (hk : k < n) (h0 : 0 < k) (hp : (k - 1) / 2 = i) : xs.getD (kid xs i n) 0 ≤ xs.getD k 0 := by
  unfold kid
  have h : k = 2 * i + 1 ∨ k = 2 * i + 2 := by omega
  split
  · next h1 => rcases h with rfl | rfl <;> omega
  · next h1 =>
    rcases h with rfl | rfl
    · omega
    · have : ¬ (xs.getD (2 * i + 2) 0 < xs.getD (2 * i + 1) 0) := fun e => h1 ⟨hk, e⟩
      omega
theorem kid_par (xs : List Int) (i n : Nat) : (kid xs i n - 1) / 2 = i := by unfold kid; split <;> omega
/-- A heap but for the place j, which may be too great: among the first n. -/
theorem downF_heaped (n : Nat) : ∀ (k j : Nat) (xs : List Int), n - j ≤ k → n ≤ xs.length →
    (∀ i, 0 < i → i < n → (i - 1) / 2 ≠ j → xs.getD ((i - 1) / 2) 0 ≤ xs.getD i 0) →
    (0 < j → ∀ i, 0 < i → i < n → (i - 1) / 2 = j → xs.getD ((j - 1) / 2) 0 ≤ xs.getD i 0) →
    Heaped (downF xs j n) n := by
  intro k
  induction k with
  | zero => intro j xs hk hn h1 h2; rw [downF_end _ _ _ (by omega)]; intro i a b; exact h1 i a b (by omega)
  | succ k ih =>
    intro j xs hk hn h1 h2
    by_cases h : 2 * j + 1 < n
    · have kl := kid_lt xs j n h
      have kg := kid_gt xs j n
      have kp := kid_par xs j n
      by_cases h3 : xs.getD (kid xs j n) 0 < xs.getD j 0
      · rw [downF_go _ _ _ h h3]
        have hj : j < xs.length := by omega
        have hq : kid xs j n < xs.length := by omega
        have kle := kid_le xs j n
        generalize kid xs j n = q at *
        refine ih q _ (by omega) (by rw [swp_len]; omega) ?_ ?_
        · intro i a b c
          rw [swp_getD _ _ _ _ hj hq, swp_getD _ _ _ _ hj hq]
          rw [if_neg c]
          by_cases e1 : (i - 1) / 2 = j
          · rw [if_pos e1]
            by_cases e2 : i = q
            · rw [if_pos e2]; omega
            · rw [if_neg e2, if_neg (by omega)]; exact kle i b a e1
          · rw [if_neg e1]
            rw [if_neg (by intro e; subst e; omega)]
            by_cases e3 : i = j
            · rw [if_pos e3]; subst e3; exact h2 a q (by omega) kl kp
            · rw [if_neg e3]; exact h1 i a b e1
        · intro h0 i a b c
          rw [swp_getD _ _ _ _ hj hq, swp_getD _ _ _ _ hj hq]
          rw [kp, if_neg (by omega), if_pos rfl, if_neg (by omega), if_neg (by omega)]
          have := h1 i a b (by omega)
          rw [c] at this; exact this
      · rw [downF_stop _ _ _ h h3]
        intro i a b
        by_cases e : (i - 1) / 2 = j
        · rw [e]; have := kid_le xs j n i b a e; omega
        · exact h1 i a b e
    · rw [downF_end _ _ _ h]
      intro i a b
      exact h1 i a b (by omega)
/-- What lies behind the first n stays. -/
theorem downF_far (n : Nat) : ∀ (k j : Nat) (xs : List Int), n - j ≤ k → n ≤ xs.length → ∀ i, n ≤ i → (downF xs j n).getD i 0 = xs.getD i 0 := by
  intro k
  induction k with
  | zero => intro j xs hk hn i hi; rw [downF_end _ _ _ (by omega)]
  | succ k ih =>
    intro j xs hk hn i hi
    by_cases h : 2 * j + 1 < n
    · have kl := kid_lt xs j n h
      have kg := kid_gt xs j n
      by_cases h3 : xs.getD (kid xs j n) 0 < xs.getD j 0
      · rw [downF_go _ _ _ h h3, ih _ _ (by omega) (by rw [swp_len]; omega) i hi, swp_getD _ _ _ _ (by omega) (by omega), if_neg (by omega), if_neg (by omega)]
      · rw [downF_stop _ _ _ h h3]
    · rw [downF_end _ _ _ h]
theorem upF_len (xs : List Int) (j : Nat) (h : j < xs.length) : (upF xs j).length = xs.length := (upF_perm j xs h).length_eq
theorem downF_len (xs : List Int) (n : Nat) (h : n ≤ xs.length) : (downF xs 0 n).length = xs.length := (downF_perm n n 0 xs (by omega) h).length_eq
theorem getD_app (xs ys : List Int) (i : Nat) (h : i < xs.length) : (xs ++ ys).getD i 0 = xs.getD i 0 := by
  simp [List.getD_eq_getElem?_getD, List.getElem?_append_left h]
/-- A number put at the end and brought up. -/
def pushF (xs : List Int) (n : Int) : List Int := upF (xs ++ [n]) xs.length
theorem pushF_perm (xs : List Int) (n : Int) : (pushF xs n).Perm (n :: xs) := by
  unfold pushF
  exact (upF_perm _ _ (by simp)).trans (by simpa using List.perm_append_comm (l₁ := xs) (l₂ := [n]))
theorem pushF_len (xs : List Int) (n : Int) : (pushF xs n).length = xs.length + 1 := by rw [(pushF_perm xs n).length_eq]; rfl
theorem pushF_heaped (xs : List Int) (n : Int) (h : Heaped xs xs.length) : Heaped (pushF xs n) (pushF xs n).length := by
  rw [pushF_len]
  have hl : (xs ++ [n]).length = xs.length + 1 := by simp
  have := upF_heaped xs.length (xs ++ [n]) (by simp) (fun i a b c => by
    rw [hl] at b
    have := h i a (by omega)
    rw [getD_app _ _ _ (by omega), getD_app _ _ _ (by omega)]; exact this) (fun h0 i a b c => by rw [hl] at b; omega)
  rw [hl] at this; exact this
/-- The least taken off: what is left. -/
def popF (xs : List Int) : List Int := (downF (swp xs 0 (xs.length - 1)) 0 (xs.length - 1)).take (xs.length - 1)
theorem getD_take (xs : List Int) (n i : Nat) (h : i < n) : (xs.take n).getD i 0 = xs.getD i 0 := by
  simp [List.getD_eq_getElem?_getD, List.getElem?_take, h]
theorem popF_len (xs : List Int) (h : xs ≠ []) : (popF xs).length = xs.length - 1 := by
  have := List.length_pos_iff.2 h
  unfold popF
  rw [List.length_take, downF_len _ _ (by rw [swp_len]; omega), swp_len]; omega
theorem popF_heaped (xs : List Int) (h : Heaped xs xs.length) (hn : xs ≠ []) : Heaped (popF xs) (popF xs).length := by
  have hp := List.length_pos_iff.2 hn
  rw [popF_len xs hn]
  have := downF_heaped (xs.length - 1) (xs.length - 1) 0 (swp xs 0 (xs.length - 1)) (by omega) (by rw [swp_len]; omega) (fun i a b c => by
    rw [swp_getD _ _ _ _ (by omega) (by omega), swp_getD _ _ _ _ (by omega) (by omega), if_neg (by omega), if_neg (by omega), if_neg (by omega), if_neg (by omega)]
    exact h i a (by omega)) (fun h0 => by omega)
  intro i a b
  unfold popF
  rw [getD_take _ _ _ (by omega), getD_take _ _ _ b]
  exact this i a b
theorem popF_perm (xs : List Int) (hn : xs ≠ []) : xs.Perm (xs.getD 0 0 :: popF xs) := by
  have hp := List.length_pos_iff.2 hn
  have hd := downF_perm (xs.length - 1) (xs.length - 1) 0 (swp xs 0 (xs.length - 1)) (by omega) (by rw [swp_len]; omega)
  have hs := swp_perm xs 0 (xs.length - 1) (by omega) (by omega)
  have hl : (downF (swp xs 0 (xs.length - 1)) 0 (xs.length - 1)).length = xs.length := by rw [hd.length_eq, swp_len]
  have hf := downF_far (xs.length - 1) (xs.length - 1) 0 (swp xs 0 (xs.length - 1)) (by omega) (by rw [swp_len]; omega) (xs.length - 1) (Nat.le_refl _)
  rw [swp_getD _ _ _ _ (by omega) (by omega), if_pos rfl] at hf
  unfold popF
  generalize downF (swp xs 0 (xs.length - 1)) 0 (xs.length - 1) = ys at *
  have hy : ys = ys.take (xs.length - 1) ++ [xs.getD 0 0] := by
    rw [← hf]
    conv => lhs; rw [← List.take_append_drop (xs.length - 1) ys]
    congr 1
    rw [List.drop_eq_getElem_cons (by omega), List.drop_of_length_le (by omega)]
    simp [List.getD_eq_getElem?_getD, List.getElem?_eq_getElem (show xs.length - 1 < ys.length by omega)]
  have h1 : xs.Perm ys := (hd.trans hs).symm
  refine h1.trans ?_
  conv => lhs; rw [hy]
  exact List.perm_append_comm
end Go.Proofs.Ytndmpdpmfieacaa

namespace Go.Proofs.Ytndmpdpmfieacaa
open Go.RowKit Go.WideShapes Go.ChangeShapes
set_option linter.all false
def ints (xs : List Int) : List Value := xs.map (Value.int .i64)
theorem ints_len (xs : List Int) : (ints xs).length = xs.length := by simp [ints]
theorem ints_at (xs : List Int) (m : Nat) (h : m < xs.length) : (ints xs)[m]? = some (.int .i64 (xs.getD m 0)) := by
  simp [ints, List.getD_eq_getElem?_getD, h]
theorem row_of_own {w : World} {B g n c : Nat} {xs : List Int} (h : w.ownsRow B 3 1 (.slice (some ⟨g, 0, none⟩) n c) n (ints xs)) : Row g xs w := by
  have hl := h.1
  rw [ints_len] at hl
  exact ⟨fun m hm => (h.cellAt m (by omega)).trans (ints_at xs m hm), fun m hm => h.frozenAt m⟩
theorem own_of_row {w : World} {B g n c : Nat} {ys : List Value} {xs : List Int} (h : w.ownsRow B 3 1 (.slice (some ⟨g, 0, none⟩) n c) n ys) (hr : Row g xs w) (hl : xs.length = n) : w.ownsRow B 3 1 (.slice (some ⟨g, 0, none⟩) n c) n (ints xs) := by
  have e : ys = ints xs := by
    apply List.ext_getElem?
    intro m
    by_cases hm : m < n
    · rw [← h.cellAt m (by omega), hr.cell m (by omega), ints_at xs m (by omega)]
    · rw [List.getElem?_eq_none (by have := h.1; omega), List.getElem?_eq_none (by rw [ints_len]; omega)]
  rw [← e]; exact h
theorem OnlyR.grown {g : Nat} {w w' : World} (h : OnlyR g w w') : w.grownBy w' (some g) := ⟨h.os, h.tape, h.output, Nat.le_of_eq h.size.symm, fun k _ hk => h.block k (fun e => hk (by rw [e]))⟩
theorem OnlyR.owns {g B n c : Nat} {w w' : World} {xs ys : List Int} (h : OnlyR g w w') (ho : w.ownsRow B 3 1 (.slice (some ⟨g, 0, none⟩) n c) n (ints xs)) (hr : Row g ys w') (hl : ys.length = n) : w'.ownsRow B 3 1 (.slice (some ⟨g, 0, none⟩) n c) n (ints ys) := by
  obtain ⟨zs, hz⟩ := h.own B n c _ ho
  exact own_of_row hz hr hl
/-- What a call did to the heap at P, whose row was v: only P and the row have turned, and what is new. -/
structure Turned (P : Nat) (v : Value) (w w' : World) : Prop where
  os : w'.os = w.os
  tape : w'.tape = w.tape
  output : w'.output = w.output
  size : w.heap.size ≤ w'.heap.size
  block : ∀ b, b < w.heap.size → b ≠ P → some b ≠ v.ownBlock → w'.heap[b]? = w.heap[b]?
  other : ∀ o, o ≠ 0 → w'.cell? ⟨P, o, none⟩ = w.cell? ⟨P, o, none⟩
/-- The heap at P with the row v, which reads xs. -/
structure Heap (P B : Nat) (v : Value) (xs : List Int) (w : World) : Prop where
  cell : w.cell? ⟨P, 0, none⟩ = some v
  free : w.frozen? ⟨P, 0, none⟩ = false
  own : w.ownsRow B 3 1 v xs.length (ints xs)
theorem own_slice {w : World} {B n : Nat} {v : Value} {xs : List Value} (h : w.ownsRow B 3 1 v n xs) : ∃ A c, v = .slice A n c := by
  rcases h.2 with ⟨rfl, rfl⟩ | ⟨g, cap, cur, rfl, _⟩
  · exact ⟨none, 0, rfl⟩
  · exact ⟨_, _, rfl⟩
theorem frozen_setCell_cell (w : World) (a p : Addr) (u : Value) : (w.setCell a u).frozen? p = w.frozen? p := World.frozen?_setCell w a p u
set_option maxRecDepth 100000 in
set_option maxHeartbeats 800000 in
theorem hpush_own (P B : Nat) (v : Value) (xs : List Int) (n : Int) (w : World) (h : Heap P B v xs w) (hm : xs.length < 900000) (hPB : P < B) (hBw : B ≤ w.heap.size) :
    Calls Try.prog 77 #[.iface 150 (.pointer (some ⟨P, 0, none⟩)), .iface 3 (.int .i64 n)] w fun e w' => e = .returned (.tuple #[]) ∧ ∃ v', Heap P B v' (pushF xs n) w' ∧ Turned P v w w' ∧ (∀ b, some b = v'.ownBlock → some b = v.ownBlock ∨ w.heap.size ≤ b) := by
  obtain ⟨A, c, rfl⟩ := own_slice h.own
  have hm1 := m_push ⟨P, 0, none⟩
  have HP := h.cell
  have HF := h.free
  have HO := h.own
  have lP := World.block_lt_of_cell? w _ HP
  generalize hL : xs.length = L at *
  go_enter Try.func77, Try.ntmps77
  have HL := Lib.hid hL
  clear hL
  clear h
  go_wp2_with (first
    | (go_at_call 129
       refine (npush_own P B L c A (ints xs) n _ (by omega) hPB HP HF HO hBw).mono ?_
       rintro e w1 ⟨rfl, g, cap, w2, hO, hG, hg, rfl⟩
       have hgB := (hO.lt g rfl).1
       have hgP : P ≠ g := by omega
       have e2 : ints xs ++ [.int .i64 n] = ints (xs ++ [n]) := by simp [ints]
       rw [e2] at hO
       have hPr : some P ≠ (Value.slice A L c).ownBlock := by
         intro e
         have := (HO.lt P e.symm).1
         omega
       have c2 : w2.cell? ⟨P, 0, none⟩ = some (.slice A L c) := by rw [hG.cell_far _ lP hPr]; exact HP
       have c1 := World.cell?_setCell_same w2 _ (.slice (some ⟨g, 0, none⟩) (L + 1) cap) c2
       have f1 : (w2.setCell ⟨P, 0, none⟩ (.slice (some ⟨g, 0, none⟩) (L + 1) cap)).frozen? ⟨P, 0, none⟩ = false := by
         rw [World.frozen?_setCell, hG.frozen_far _ lP hPr]; exact HF
       have hO1 : (w2.setCell ⟨P, 0, none⟩ (.slice (some ⟨g, 0, none⟩) (L + 1) cap)).ownsRow B 3 1 (.slice (some ⟨g, 0, none⟩) (L + 1) cap) (L + 1) (ints (xs ++ [n])) :=
         hO.kept (row := some P) ⟨rfl, rfl, rfl, by simp, fun k _ hk => Below.heap_setCell w2 _ _ k (fun e => hk (by rw [e]))⟩ (.inr (by simp [Value.ownBlock]; omega))
       have hr1 := row_of_own hO1
       have hm2 := m_len _ _ _ _ _ c1
       have XL : Hid ((xs ++ [n]).length = L + 1) := by have := HL.out; simp [Lib.hid]; exact Lib.hid (by simp [this])
       have T1 : Hid (Turned P (.slice A L c) w (w2.setCell ⟨P, 0, none⟩ (.slice (some ⟨g, 0, none⟩) (L + 1) cap))) := Lib.hid ⟨hG.os, hG.tape, hG.output, by simpa using hG.size, fun b hb hp hv => (Below.heap_setCell w2 _ _ b hp).trans (hG.block b hb hv), fun o ho => (World.cell?_setCell_other w2 _ _ _ (by simp [Ne.symm ho])).trans (hG.cell_far _ lP hPr)⟩
       have HG := Lib.hid hg
       have H1 := Lib.hid hO1
       have C1 := Lib.hid c1
       have F1 := Lib.hid f1
       clear hg hO1 hO f1 c2 hPr e2)
    | (go_at_call 97
       refine (up_any P g (L + 1) cap (xs ++ [n]) L _ (by omega) XL.out (by omega) hgP C1.out hr1).mono ?_
       rintro e w3 ⟨rfl, hR, hOn⟩)
    | go_in
    | fail)
  go_end0
  have hlen : (xs ++ [n]).length = L + 1 := XL.out
  have hp : upF (xs ++ [n]) L = pushF xs n := by unfold pushF; rw [HL.out]
  rw [hp] at hR
  have hpl : (pushF xs n).length = L + 1 := by rw [pushF_len, HL.out]
  refine ⟨rfl, .slice (some ⟨g, 0, none⟩) (L + 1) cap, ⟨(hOn.cell hgP).trans C1.out, ?_, ?_⟩, ?_, ?_⟩
  · exact (World.frozen?_of_block (hOn.block P hgP)).trans F1.out
  · rw [hpl]; exact hOn.owns H1.out hR hpl
  · have T := T1.out
    refine ⟨hOn.os.trans T.os, hOn.tape.trans T.tape, hOn.output.trans T.output, by rw [hOn.size]; exact T.size, fun b hb hp hv => ?_, fun o ho => (hOn.cell hgP).trans (T.other o ho)⟩
    have hbg : b ≠ g := by
      intro e; subst e
      rcases HG.out with h | h
      · exact hv h.symm
      · omega
    exact (hOn.block b hbg).trans (T.block b hb hp hv)
  · intro b hb
    simp only [Value.ownBlock, Option.some.injEq] at hb
    subst hb
    rcases HG.out with h | h
    · exact .inl h.symm
    · exact .inr h
end Go.Proofs.Ytndmpdpmfieacaa

namespace Go.Proofs.Ytndmpdpmfieacaa
open Go.RowKit Go.WideShapes Go.ChangeShapes
set_option linter.all false
theorem own_take {w : World} {B g n c : Nat} {xs : List Int} (h : w.ownsRow B 3 1 (.slice (some ⟨g, 0, none⟩) n c) n (ints xs)) (m : Nat) (hm : m ≤ n) :
    w.ownsRow B 3 1 (.slice (some ⟨g, 0, none⟩) m c) m (ints (xs.take m)) := by
  have hl := h.1
  rw [ints_len] at hl
  refine ⟨by rw [ints_len, List.length_take]; omega, ?_⟩
  rcases h.2 with ⟨h', _⟩ | ⟨g', c', cur, h', hb, hg, hn, hc, hs, ht⟩
  · simp at h'
  · simp only [Value.slice.injEq, Option.some.injEq, Addr.mk.injEq, and_true, true_and] at h'
    obtain ⟨rfl, rfl⟩ := h'
    refine .inr ⟨g, c, cur, rfl, hb, hg, by omega, hc, hs, ?_⟩
    simp only [Nat.mul_one] at ht ⊢
    unfold ints at ht ⊢
    rw [List.map_take, ← ht, List.take_take, Nat.min_eq_left hm]
set_option maxRecDepth 100000 in
set_option maxHeartbeats 800000 in
theorem hpop_own (P B : Nat) (v : Value) (xs : List Int) (w : World) (h : Heap P B v xs w) (hn : xs ≠ []) (hm : xs.length < 900000) (hPB : P < B) (hBw : B ≤ w.heap.size) :
    Calls Try.prog 78 #[.iface 150 (.pointer (some ⟨P, 0, none⟩))] w fun e w' => (∃ r, e = .returned r) ∧ ∃ v', Heap P B v' (popF xs) w' ∧ Turned P v w w' ∧ v'.ownBlock = v.ownBlock := by
  obtain ⟨A, c, rfl⟩ := own_slice h.own
  have hp := List.length_pos_iff.2 hn
  obtain ⟨g, c', hv, hgB, hgw⟩ := h.own.form hp
  injection hv with hA hl0 hc
  subst hA hc
  obtain ⟨L, hL⟩ : ∃ L, xs.length = L + 1 := ⟨xs.length - 1, by omega⟩
  have HP := h.cell
  have HF := h.free
  have HO := h.own
  rw [hL] at HP HO
  have hgP : P ≠ g := by omega
  have hr := row_of_own HO
  have hnc : L + 1 ≤ c := by
    rcases HO.2 with ⟨h', _⟩ | ⟨g', c', cur, h', _, _, hn, _⟩
    · simp at h'
    · simp only [Value.slice.injEq, Option.some.injEq, Addr.mk.injEq, and_true, true_and] at h'
      obtain ⟨rfl, rfl⟩ := h'
      exact hn
  have hm1 := m_len _ _ _ _ _ HP
  have hm2 := m_swap _ _ _ _ _ HP
  have hS := swap_i g (L + 1) c xs (a := 0) (b := L) 0 L w (by rfl) rfl hL (by omega) (by omega) hr
  have hpf : popF xs = (downF (swp xs 0 L) 0 L).take L := by unfold popF; rw [hL]; rfl
  have hLb : L < 900000 := by omega
  have HH := Lib.hid hpf
  have XL := Lib.hid hL
  have HN := Lib.hid hl0
  have GP := Lib.hid hgP
  have HO' := Lib.hid HO
  have hsl : (swp xs 0 L).length = L + 1 := by rw [swp_len]; exact hL
  have SL := Lib.hid hsl
  clear hpf hL hl0 h HO hp hn hsl
  go_enter Try.func78, Try.ntmps78
  go_wp2_with (first
    | (go_at_call 127
       refine hS.mono ?_
       rintro e w1 ⟨rfl, hR, hOn⟩
       have hP1 : w1.cell? ⟨P, 0, none⟩ = some (.slice (some ⟨g, 0, none⟩) (L + 1) c) := (hOn.cell GP.out).trans HP)
    | (go_at_call 98
       refine (down_any P g (L + 1) c L (swp xs 0 L) 0 _ (by omega) (by omega) SL.out (by omega) GP.out hP1 hR).mono ?_
       rintro e w2 ⟨⟨b, rfl⟩, hR2, hOn2⟩
       have hP2 : w2.cell? ⟨P, 0, none⟩ = some (.slice (some ⟨g, 0, none⟩) (L + 1) c) := (hOn2.cell GP.out).trans hP1
       have hF2 : w2.frozen? ⟨P, 0, none⟩ = false := (World.frozen?_of_block (hOn2.block P GP.out)).trans ((World.frozen?_of_block (hOn.block P GP.out)).trans HF)
       have hdl : (downF (swp xs 0 L) 0 L).length = L + 1 := by rw [downF_len _ _ (by rw [SL.out]; omega)]; exact SL.out
       have DL := Lib.hid hdl
       clear hdl
       have hm3 := m_pop ⟨P, 0, none⟩)
    | (go_at_call 128
       refine (npop_any P g L c (downF (swp xs 0 L) 0 L) _ DL.out (by omega) hP2 hF2 hR2 (by omega)).mono ?_
       rintro e w3 ⟨rfl, rfl⟩)
    | go_in
    | fail)
  go_ret
  have e1 : popF xs = (downF (swp xs 0 L) 0 L).take L := HH.out
  have hpl : (popF xs).length = L := by rw [e1, List.length_take, DL.out]; omega
  have hO2 := (hOn.trans hOn2).owns HO'.out hR2 DL.out
  refine ⟨⟨_, rfl⟩, .slice (some ⟨g, 0, none⟩) L c, ⟨World.cell?_setCell_same _ _ _ hP2, by rw [World.frozen?_setCell]; exact hF2, ?_⟩, ?_, rfl⟩
  · rw [hpl, e1]
    exact (own_take hO2 L (by omega)).kept (row := some P) ⟨rfl, rfl, rfl, by simp, fun k _ hk => Below.heap_setCell w2 _ _ k (fun e => hk (by rw [e]))⟩ (.inr (by simp [Value.ownBlock]; omega))
  · have hT := hOn.trans hOn2
    refine ⟨hT.os, hT.tape, hT.output, by simpa using Nat.le_of_eq hT.size.symm, fun b hb hp hv => ?_, fun o ho => (World.cell?_setCell_other w2 _ _ _ (by simp [Ne.symm ho])).trans (hT.cell GP.out)⟩
    have hbg : b ≠ g := fun e => hv (by rw [e]; rfl)
    exact (Below.heap_setCell w2 _ _ b hp).trans (hT.block b hbg)
end Go.Proofs.Ytndmpdpmfieacaa

namespace Go.Proofs.Ytndmpdpmfieacaa
open Go.RowKit Go.WideShapes Go.ChangeShapes
set_option linter.all false
theorem info4 : (Try.prog.info? 4).map (fun i => (i.zero, i.size, i.bytes)) = some (some (.bool false), 1, 1) := by kernel_rfl
/-- A pool of k numbers at P whose heap reads l, its row at I. -/
structure Pool (W : World) (P k : Nat) (l : Value) (w : World) : Prop where
  c0 : w.cell? ⟨P, 0, none⟩ = some l
  c1 : w.cell? ⟨P, 1, none⟩ = some (.slice (some ⟨W.heap.size, 0, none⟩) k k)
  hP : W.heap.size < P
  bel : Below W.heap.size W w
/-- A new one. -/
structure Fresh (W : World) (P k : Nat) (w : World) : Prop extends Pool W P k (.slice none 0 0) w where
  f0 : w.frozen? ⟨P, 0, none⟩ = false
  row : ∀ j, j < k → w.cell? ⟨W.heap.size, j, none⟩ = some (.bool false)
  frow : ∀ j, j < k → w.frozen? ⟨W.heap.size, j, none⟩ = false
set_option maxRecDepth 100000 in
set_option maxHeartbeats 400000 in
theorem new_any (k : Nat) (w : World) (hk : k ≤ 65535) : Calls Try.prog 47 #[.int .i64 k] w fun e w' => ∃ P, e = .returned (.tuple #[.pointer (some ⟨P, 0, none⟩), .int .i64 0]) ∧ Fresh w P k w' := by
  obtain ⟨i0, hi0, hz0, hz1, hz2⟩ := info_parts info4
  have hno : ¬ (k : Int) < 0 := by omega
  have hno2 : ¬ (k : Int) > 65535 := by omega
  go_enter Try.func47, Try.ntmps47
  go_wp2_with (first
    | (refine wpList_make_full _ rfl (.tmp 10) (.tmp 10) 145 rfl w.heap.size 4 i0 (.bool false) 1 Try.underlying145 hi0 hz0 hz1 .i64 .i64 _ _ k rfl rfl rfl rfl (by rw [hz2]; omega) (by unfold maxLen; omega) (Nat.le_refl _) ?_
       intro w1 hown hg1)
    | fail)
  have hb : Below w.heap.size w w1 := (Below.refl _ _).grown hg1 (Nat.le_refl _) (by simp)
  have hc : ∀ j, j < k → w1.cell? ⟨w.heap.size, j, none⟩ = some (.bool false) := fun j hj => by
    rw [World.ownsRow.cellAt hown j (by omega)]
    unfold madeCells
    simp [hj, Value.cells, Nat.mod_one]
  have hlt : w.heap.size < w1.heap.size := by
    have := hg1.size
    rcases hown.2 with ⟨h', _⟩ | ⟨g', cap', cur, h', _, hg, _⟩
    · simp at h'
    · injection h' with h1 h2 h3
      injection h1 with h1; injection h1 with h1 h4 h5
      subst h1
      rcases Nat.lt_or_ge w.heap.size w1.heap.size with h | h
      · exact h
      · rw [Array.getElem?_eq_none h] at hg; cases hg
  have hb1 : ∀ o : Obj, Below w1.heap.size w1 (w1.alloc o) := fun o => (Below.refl _ _).alloc (Nat.le_refl _) o
  go_ret2
  refine ⟨_, rfl, ⟨⟨?_, ?_, hlt, hb.alloc hb.size _⟩, ?_, ?_, ?_⟩⟩
  · rw [World.cell?_alloc_at _ _ _ _ rfl]; rfl
  · rw [World.cell?_alloc_at _ _ _ _ rfl]; rfl
  · simp
  · intro j hj; exact ((hb1 _).cell (p := ⟨w.heap.size, j, none⟩) hlt).trans (hc j hj)
  · intro j hj; exact ((hb1 _).frozen (p := ⟨w.heap.size, j, none⟩) hlt).trans (World.ownsRow.frozenAt hown j)
section
variable {W : World} {P k : Nat} {l : Value} {w : World}
set_option maxRecDepth 100000 in
set_option maxHeartbeats 400000 in
theorem put_out (h : Pool W P k l w) (n : Int) (hn : n < 0 ∨ (k : Int) ≤ n) : Calls Try.prog 48 #[.pointer (some ⟨P, 0, none⟩), .int .i64 n] w fun e w' => e = .returned (.bool false) ∧ w' = w := by
  have h1 := h.c1
  go_enter Try.func48, Try.ntmps48
  have H : Hid (n < 0 ∨ (k : Int) ≤ n) := hn
  clear hn
  go_wp2
  all_goals first
    | (exfalso; have := H.out; omega)
    | (go_ret; exact ⟨rfl, rfl⟩)
set_option maxRecDepth 100000 in
set_option maxHeartbeats 400000 in
theorem len_any {x : Option Addr} {m c : Nat} (h : Pool W P k (.slice x m c) w) : Calls Try.prog 50 #[.pointer (some ⟨P, 0, none⟩)] w fun e w' => e = .returned (.int .i64 m) ∧ w' = w := by
  have h1 := h.c0
  go_enter Try.func50, Try.ntmps50
  go_wp2
  go_ret
  exact ⟨rfl, rfl⟩
end
end Go.Proofs.Ytndmpdpmfieacaa

namespace Go.Proofs.Ytndmpdpmfieacaa
open Go.RowKit Go.WideShapes Go.ChangeShapes
set_option linter.all false
/-- A pool of k numbers at P, of which xs are free. -/
structure St (N P I k : Nat) (v : Value) (xs : List Int) (w : World) : Prop where
  hp : Heap P (P + 1) v xs w
  c1 : w.cell? ⟨P, 1, none⟩ = some (.slice (some ⟨I, 0, none⟩) k k)
  row : ∀ j, j < k → w.cell? ⟨I, j, none⟩ = some (.bool (decide ((j : Int) ∈ xs)))
  frow : ∀ j, j < k → w.frozen? ⟨I, j, none⟩ = false
  hI : I < P
  hN : N ≤ I
  heap : Heaped xs xs.length
  nodup : xs.Nodup
  rng : ∀ x ∈ xs, 0 ≤ x ∧ x < k
/-- What a call did: only P, I and the heap's row have turned, and what is new. -/
structure Kept (P I : Nat) (v v' : Value) (w w' : World) : Prop where
  os : w'.os = w.os
  tape : w'.tape = w.tape
  output : w'.output = w.output
  size : w.heap.size ≤ w'.heap.size
  block : ∀ b, b < w.heap.size → b ≠ P → b ≠ I → some b ≠ v.ownBlock → w'.heap[b]? = w.heap[b]?
  row : ∀ b, b < w.heap.size → some b = v'.ownBlock → some b = v.ownBlock
theorem Kept.refl (P I : Nat) (v : Value) (w : World) : Kept P I v v w w := ⟨rfl, rfl, rfl, Nat.le_refl _, fun _ _ _ _ _ => rfl, fun _ _ h => h⟩
theorem Kept.below {N P I k : Nat} {v v' : Value} {xs : List Int} {W w w' : World} (hs : St N P I k v xs w) (h : Kept P I v v' w w') (hb : Below N W w) : Below N W w' := by
  refine ⟨h.os.trans hb.os, h.tape.trans hb.tape, h.output.trans hb.output, Nat.le_trans hb.size h.size, fun b hbn => ?_⟩
  have hI := hs.hI
  have hN := hs.hN
  have lP := World.block_lt_of_cell? w _ hs.hp.cell
  have lP' : P < w.heap.size := lP
  refine (h.block b (by omega) (by omega) (by omega) ?_).trans (hb.block b hbn)
  intro e
  have := (hs.hp.own.lt b e.symm).1
  omega
section
variable {N P I k : Nat} {v : Value} {xs : List Int} {w : World}
set_option maxRecDepth 100000 in
set_option maxHeartbeats 400000 in
theorem st_new (k : Nat) (w : World) (hk : k ≤ 65535) : Calls Try.prog 47 #[.int .i64 k] w fun e w' => ∃ P, e = .returned (.tuple #[.pointer (some ⟨P, 0, none⟩), .int .i64 0]) ∧ St w.heap.size P w.heap.size k (.slice none 0 0) [] w' ∧ Below w.heap.size w w' :=
  (new_any k w hk).mono fun e w' ⟨P, he, hf⟩ => ⟨P, he, ⟨⟨hf.c0, hf.f0, World.ownsRow_nil _ _ _ _⟩, hf.c1, fun j hj => by simpa using hf.row j hj, hf.frow, hf.hP, Nat.le_refl _, fun i a b => absurd b (by simp), List.nodup_nil, by simp⟩, hf.bel⟩
set_option maxRecDepth 100000 in
set_option maxHeartbeats 400000 in
theorem st_put_out (h : St N P I k v xs w) (n : Int) (hn : n < 0 ∨ (k : Int) ≤ n) : Calls Try.prog 48 #[.pointer (some ⟨P, 0, none⟩), .int .i64 n] w fun e w' => e = .returned (.bool false) ∧ w' = w := by
  have h1 := h.c1
  clear h
  go_enter Try.func48, Try.ntmps48
  have H : Hid (n < 0 ∨ (k : Int) ≤ n) := hn
  clear hn
  go_wp2
  all_goals first
    | (exfalso; have := H.out; omega)
    | (go_ret; exact ⟨rfl, rfl⟩)
set_option maxRecDepth 100000 in
set_option maxHeartbeats 400000 in
theorem st_len (h : St N P I k v xs w) : Calls Try.prog 50 #[.pointer (some ⟨P, 0, none⟩)] w fun e w' => e = .returned (.int .i64 xs.length) ∧ w' = w := by
  obtain ⟨A, c, rfl⟩ := own_slice h.hp.own
  have h1 := h.hp.cell
  generalize hL : xs.length = L at *
  clear h hL
  go_enter Try.func50, Try.ntmps50
  go_wp2
  go_ret
  exact ⟨rfl, rfl⟩
set_option maxRecDepth 100000 in
set_option maxHeartbeats 400000 in
theorem st_put_no (h : St N P I k v xs w) (j : Nat) (hj : j < k) (hm : (j : Int) ∈ xs) : Calls Try.prog 48 #[.pointer (some ⟨P, 0, none⟩), .int .i64 j] w fun e w' => e = .returned (.bool false) ∧ w' = w := by
  have h1 := h.c1
  have h2 := h.row j hj
  rw [decide_eq_true hm] at h2
  have hj1 : (j : Int) < k := by omega
  have hj0 : (0 : Int) ≤ j := by omega
  clear h hm
  go_enter Try.func48, Try.ntmps48
  go_wp2
  go_ret
  exact ⟨rfl, rfl⟩
theorem Heap.far {B : Nat} (h : Heap P B v xs w) (hPB : P < B) {w' : World} (hsz : w.heap.size ≤ w'.heap.size) (hb : ∀ b, b ≠ I → w'.heap[b]? = w.heap[b]?) (hI : I < P) : Heap P B v xs w' := by
  refine ⟨(World.cell?_of_block (hb P (by omega))).trans h.cell, (World.frozen?_of_block (hb P (by omega))).trans h.free, ?_⟩
  refine ⟨h.own.1, ?_⟩
  rcases h.own.2 with hn | ⟨g, cap, cur, hv, hgb, hgg, rest⟩
  · exact .inl hn
  · exact .inr ⟨g, cap, cur, hv, hgb, (hb g (by omega)).trans hgg, rest⟩
set_option maxRecDepth 100000 in
set_option maxHeartbeats 400000 in
theorem st_put_yes (h : St N P I k v xs w) (j : Nat) (hj : j < k) (hm : (j : Int) ∉ xs) (hlen : xs.length < 900000) :
    Calls Try.prog 48 #[.pointer (some ⟨P, 0, none⟩), .int .i64 j] w fun e w' => e = .returned (.bool true) ∧ ∃ v', St N P I k v' (pushF xs j) w' ∧ Kept P I v v' w w' := by
  have h1 := h.c1
  have h2 := h.row j hj
  have h3 := h.frow j hj
  rw [decide_eq_false hm] at h2
  have hj1 : (j : Int) < k := by omega
  have hj0 : (0 : Int) ≤ j := by omega
  have hI := h.hI
  have lP : P < w.heap.size := World.block_lt_of_cell? w _ h.hp.cell
  have lI : I < w.heap.size := World.block_lt_of_cell? w _ h2
  have hp1 : Heap P (P + 1) v xs (w.setCell ⟨I, j, none⟩ (.bool true)) := h.hp.far (I := I) (by omega) (by simp) (fun b hb => Below.heap_setCell w _ _ b hb) hI
  have hpu := hpush_own P (P + 1) v xs j _ hp1 hlen (by omega) (by simp; omega)
  have HS := Lib.hid h
  have HM := Lib.hid hm
  clear h hm
  go_enter Try.func48, Try.ntmps48
  go_wp2_with (first
    | (go_at_call 77; refine hpu.mono ?_; rintro e w1 ⟨rfl, v', hp2, ht, hrow⟩)
    | fail)
  go_ret
  have S := HS.out
  have M := HM.out
  have hperm := pushF_perm xs (j : Int)
  have hIr : some I ≠ v.ownBlock := by
    intro e; have := (S.hp.own.lt I e.symm).1; omega
  have hbI : w1.heap[I]? = (w.setCell ⟨I, j, none⟩ (.bool true)).heap[I]? := ht.block I (by simpa using lI) (by omega) hIr
  refine ⟨rfl, v', ⟨hp2, ?_, ?_, ?_, hI, S.hN, pushF_heaped _ _ S.heap, ?_, ?_⟩, ⟨ht.os, ht.tape, ht.output, by simpa using ht.size, fun b hb hbp hbi hbv => ?_, fun b hb hbv => ?_⟩⟩
  · have hPb : (w.setCell ⟨I, j, none⟩ (.bool true)).cell? ⟨P, 1, none⟩ = some (.slice (some ⟨I, 0, none⟩) k k) := by
      rw [World.cell?_setCell_far _ _ _ _ (by show I ≠ P; omega)]; exact S.c1
    exact (ht.other 1 (by omega)).trans hPb
  · intro m hmk
    rw [World.cell?_of_block (a := ⟨I, m, none⟩) hbI]
    have hiff : ((m : Int) ∈ pushF xs j) ↔ (m = j ∨ (m : Int) ∈ xs) := by
      rw [hperm.mem_iff, List.mem_cons]
      constructor
      · rintro (a | a); exact .inl (by omega); exact .inr a
      · rintro (a | a); exact .inl (by omega); exact .inr a
    by_cases e : m = j
    · subst e
      rw [World.cell?_setCell_same _ _ _ (S.row m hmk), decide_eq_true (hiff.2 (.inl rfl))]
    · rw [World.cell?_setCell_other _ _ _ _ (by simp [Ne.symm e]), S.row m hmk]
      congr 2
      simp [hiff, e]
  · intro m hmk
    rw [World.frozen?_of_block (a := ⟨I, m, none⟩) hbI, World.frozen?_setCell]; exact S.frow m hmk
  · rw [hperm.nodup_iff]; exact List.nodup_cons.2 ⟨M, S.nodup⟩
  · intro x hx
    rcases List.mem_cons.1 (hperm.mem_iff.1 hx) with rfl | hx
    · omega
    · exact S.rng x hx
  · exact (ht.block b (by simpa using hb) hbp hbv).trans (Below.heap_setCell w _ _ b hbi)
  · rcases hrow b hbv with h | h
    · exact h
    · simp at h; omega
theorem popF_mem (xs : List Int) (hn : xs ≠ []) (hd : xs.Nodup) (x : Int) : x ∈ popF xs ↔ x ∈ xs ∧ x ≠ xs.getD 0 0 := by
  have hp := popF_perm xs hn
  have h2 := List.nodup_cons.1 (hp.nodup_iff.1 hd)
  rw [hp.mem_iff, List.mem_cons]
  constructor
  · intro h; exact ⟨.inr h, fun e => h2.1 (e ▸ h)⟩
  · rintro ⟨a | a, b⟩
    · exact absurd a b
    · exact a
set_option maxRecDepth 100000 in
set_option maxHeartbeats 400000 in
theorem st_take_no (h : St N P I k v [] w) : Calls Try.prog 56 #[.pointer (some ⟨P, 0, none⟩)] w fun e w' => e = .returned (.tuple #[.int .i64 0, .bool false]) ∧ w' = w := by
  obtain ⟨A, c, rfl⟩ := own_slice h.hp.own
  have h1 := h.hp.cell
  simp only [List.length_nil] at h1
  clear h
  go_enter Try.func56, Try.ntmps56
  go_wp2
  go_ret2
  exact ⟨rfl, rfl⟩
set_option maxRecDepth 100000 in
set_option maxHeartbeats 400000 in
theorem st_take (h : St N P I k v xs w) (hn : xs ≠ []) (hlen : xs.length < 900000) (m : Nat) (hm : xs.getD 0 0 = m) :
    Calls Try.prog 56 #[.pointer (some ⟨P, 0, none⟩)] w fun e w' => e = .returned (.tuple #[.int .i64 m, .bool true]) ∧ ∃ v', St N P I k v' (popF xs) w' ∧ Kept P I v v' w w' := by
  have hp := List.length_pos_iff.2 hn
  have hmem : xs.getD 0 0 ∈ xs := by
    rw [List.getD_eq_getElem?_getD, List.getElem?_eq_getElem hp]; exact List.getElem_mem _
  have hr := h.rng _ hmem
  rw [hm] at hr
  have hI := h.hI
  have lP : P < w.heap.size := World.block_lt_of_cell? w _ h.hp.cell
  have hmk : m < k := by omega
  have lI : I < w.heap.size := World.block_lt_of_cell? w _ (h.row m hmk)
  have hpo := hpop_own P (P + 1) v xs w h.hp hn hlen (by omega) (by omega)
  obtain ⟨A, c, hv⟩ := own_slice h.hp.own
  obtain ⟨g, c', hv', hgB, hgw⟩ := h.hp.own.form hp
  rw [hv] at hv'
  injection hv' with hA _ hc
  subst hA hc
  have h1 : w.cell? ⟨P, 0, none⟩ = some (.slice (some ⟨g, 0, none⟩) xs.length c) := by rw [← hv]; exact h.hp.cell
  have ho : w.ownsRow (P + 1) 3 1 (.slice (some ⟨g, 0, none⟩) xs.length c) xs.length (ints xs) := by rw [← hv]; exact h.hp.own
  have hc0 := (row_of_own ho).cell 0 hp
  rw [hm] at hc0
  have hL0 : (0 : Int) < (xs.length : Int) := by omega
  have hLn : ¬ ((xs.length : Int) = 0) := by omega
  have hm0 : (0 : Int) ≤ m := by omega
  have hm1 : (m : Int) < k := by omega
  have HS := Lib.hid h
  have HM := Lib.hid hm
  have HN := Lib.hid hn
  have HE := Lib.hid hmem
  have HV := Lib.hid hv
  clear h hm hn hmem ho hv
  generalize hL : xs.length = L at *
  have HL := Lib.hid hL
  clear hL
  go_enter Try.func56, Try.ntmps56
  go_wp2_with (first
    | (go_at_call 78
       refine hpo.mono ?_
       rintro e w1 ⟨⟨r, rfl⟩, v', hp2, ht, hrow⟩
       have hIr : some I ≠ v.ownBlock := by
         intro e; have := (HS.out.hp.own.lt I e.symm).1; omega
       have hbI : w1.heap[I]? = w.heap[I]? := ht.block I lI (by omega) hIr
       have c1 : w1.cell? ⟨P, 1, none⟩ = some (.slice (some ⟨I, 0, none⟩) k k) := (ht.other 1 (by omega)).trans HS.out.c1
       have cm : w1.cell? ⟨I, m, none⟩ = some (.bool (decide ((m : Int) ∈ xs))) := (World.cell?_of_block (a := ⟨I, m, none⟩) hbI).trans (HS.out.row m hmk)
       have fm : w1.frozen? ⟨I, m, none⟩ = false := (World.frozen?_of_block (a := ⟨I, m, none⟩) hbI).trans (HS.out.frow m hmk)
       have HB := Lib.hid hbI
       have HI := Lib.hid hIr
       clear hbI hIr)
    | fail)
  go_ret2
  have S := HS.out
  have hiff := popF_mem xs HN.out S.nodup
  rw [HM.out] at hiff
  have hperm := popF_perm xs HN.out
  have hpl : popF xs ≠ [] ∨ popF xs = [] := by by_cases h : popF xs = [] <;> simp [h]
  refine ⟨rfl, v', ⟨hp2.far (I := I) (by omega) (by simp) (fun b hb => Below.heap_setCell w1 _ _ b hb) hI, ?_, ?_, ?_, hI, S.hN, popF_heaped _ S.heap HN.out, ?_, ?_⟩, ⟨ht.os, ht.tape, ht.output, by simpa using ht.size, fun b hb hbp hbi hbv => ?_, fun b hb hbv => ?_⟩⟩
  · rw [World.cell?_setCell_far _ _ _ _ (by show I ≠ P; omega)]; exact c1
  · intro j hj
    by_cases e : j = m
    · subst e
      rw [World.cell?_setCell_same _ _ _ cm, decide_eq_false (fun h => ((hiff _).1 h).2 rfl)]
    · rw [World.cell?_setCell_other _ _ _ _ (by simp [Ne.symm e]), World.cell?_of_block (a := ⟨I, j, none⟩) HB.out, S.row j hj]
      congr 2
      have : ((j : Int) ∈ popF xs) ↔ ((j : Int) ∈ xs) := by
        rw [hiff]; exact ⟨fun h => h.1, fun h => ⟨h, by omega⟩⟩
      simp [this]
  · intro j hj
    rw [World.frozen?_setCell, World.frozen?_of_block (a := ⟨I, j, none⟩) HB.out]; exact S.frow j hj
  · exact (List.nodup_cons.1 (hperm.nodup_iff.1 S.nodup)).2
  · intro x hx; exact S.rng x ((hiff x).1 hx).1
  · exact (Below.heap_setCell w1 _ _ b hbi).trans (ht.block b hb hbp hbv)
  · rw [← hrow]; exact hbv
end
end Go.Proofs.Ytndmpdpmfieacaa
