/-
  The pool's heap of numbers: its methods by name, a swapped row, Pop.
-/
import Derived.Test.YtndmpdpmfieacaaPl5
namespace Go.Proofs.Ytndmpdpmfieacaa
open Go.RowKit Go.WideShapes Go.ChangeShapes
set_option linter.all false
theorem m_pop (a : Addr) (w : World) : (method 299 150 (.pointer (some a)) "Pop").run Try.prog w = .ok (128, .pointer (some a)) w := by kernel_rfl
theorem i37l : ((Try.prog.info? 150).map fun i => (i.methods.find? (·.name == "Less")).map fun m => (m.func, m.path)) = some (some (some (126, false), #[])) := by kernel_rfl
theorem i37s : ((Try.prog.info? 150).map fun i => (i.methods.find? (·.name == "Swap")).map fun m => (m.func, m.path)) = some (some (some (127, false), #[])) := by kernel_rfl
theorem m_of {nm : String} {f : FuncId} (hi : ((Try.prog.info? 150).map fun i => (i.methods.find? (·.name == nm)).map fun m => (m.func, m.path)) = some (some (some (f, false), #[])))
    (a : Addr) (x : Option Addr) (n c : Nat) (w : World) (h : w.cell? a = some (.slice x n c)) : (method 299 150 (.pointer (some a)) nm).run Try.prog w = .ok (f, .slice x n c) w := by
  have hl := load33 a x n c w h
  have hu : Try.prog.underlying 150 = some (.pointer 146) := by kernel_rfl
  cases hin : Try.prog.info? 150 with
  | none => rw [hin] at hi; cases hi
  | some i =>
    rw [hin] at hi
    simp only [Option.map_some, Option.some.injEq] at hi
    cases hm : i.methods.find? (·.name == nm) with
    | none => rw [hm] at hi; cases hi
    | some m =>
      rw [hm] at hi
      simp only [Option.map_some, Option.some.injEq, Prod.mk.injEq] at hi
      exact meth_val hin hm hi.2 hi.1 hu hl
theorem m_less (a : Addr) (x : Option Addr) (n c : Nat) (w : World) (h : w.cell? a = some (.slice x n c)) : (method 299 150 (.pointer (some a)) "Less").run Try.prog w = .ok (126, .slice x n c) w := m_of i37l a x n c w h
theorem m_swap (a : Addr) (x : Option Addr) (n c : Nat) (w : World) (h : w.cell? a = some (.slice x n c)) : (method 299 150 (.pointer (some a)) "Swap").run Try.prog w = .ok (127, .slice x n c) w := m_of i37s a x n c w h
def swp (xs : List Int) (i j : Nat) : List Int := (xs.set i (xs.getD j 0)).set j (xs.getD i 0)
theorem swp_len (xs : List Int) (i j : Nat) : (swp xs i j).length = xs.length := by simp [swp]
theorem Row.set {g : Nat} {xs : List Int} {w : World} (h : Row g xs w) (i : Nat) (v : Int) (hi : i < xs.length) : Row g (xs.set i v) (w.setCell ⟨g, i, none⟩ (.int .i64 v)) := by
  refine ⟨fun m hm => ?_, fun m hm => ?_⟩
  · rw [List.length_set] at hm
    by_cases e : i = m
    · subst e
      rw [World.cell?_setCell_same _ _ _ (h.cell i hi)]
      simp [List.getD_eq_getElem?_getD, hi]
    · rw [World.cell?_setCell_other _ _ _ _ (by simp [e]), h.cell m hm]
      simp [List.getD_eq_getElem?_getD, List.getElem?_set, e]
  · rw [List.length_set] at hm
    rw [World.frozen?_setCell]; exact h.free m hm
theorem Row.drew {g : Nat} {xs : List Int} {w : World} (h : Row g xs w) : Row g xs w.drew := ⟨h.cell, h.free⟩
theorem Row.swapped {g : Nat} {xs : List Int} {w : World} (h : Row g xs w) (i j : Nat) (hi : i < xs.length) (hj : j < xs.length) :
    Row g (swp xs i j) ((w.drew.setCell ⟨g, i, none⟩ (.int .i64 (xs.getD j 0))).setCell ⟨g, j, none⟩ (.int .i64 (xs.getD i 0))) :=
  (h.drew.set i _ hi).set j _ (by simpa using hj)
set_option maxRecDepth 100000 in
set_option maxHeartbeats 400000 in
theorem npop_any (P g n c : Nat) (xs : List Int) (w : World) (hn : xs.length = n + 1) (hnc : n + 1 ≤ c) (hP : w.cell? ⟨P, 0, none⟩ = some (.slice (some ⟨g, 0, none⟩) (n + 1) c)) (hF : w.frozen? ⟨P, 0, none⟩ = false) (h : Row g xs w) (hN : n < 1000000) :
    Calls Try.prog 128 #[.pointer (some ⟨P, 0, none⟩)] w fun e w' => e = .returned (.iface 3 (.int .i64 (xs.getD n 0))) ∧ w' = w.setCell ⟨P, 0, none⟩ (.slice (some ⟨g, 0, none⟩) n c) := by
  have cn := h.cell n (by omega)
  have hn0 : (0 : Int) ≤ (n : Int) := by omega
  have hn1 : (n : Int) < ((n + 1 : Nat) : Int) := by omega
  have hn2 : (n : Int) ≤ (c : Int) := by omega
  go_enter Try.func128, Try.ntmps128
  go_wp2
  go_ret
  exact ⟨by simp [hn], rfl⟩
end Go.Proofs.Ytndmpdpmfieacaa
