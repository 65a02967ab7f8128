/-
  heap.Push onto an empty heap of numbers.
-/
import Derived.Test.YtndmpdpmfieacaaPl1
namespace Go.Proofs.Ytndmpdpmfieacaa
open Go.RowKit Go.WideShapes Go.ChangeShapes
set_option linter.all false
theorem Pushed.cell {P : Nat} {w w' : World} {v : Value} (hP : w.cell? ⟨P, 0, none⟩ = some v) (h : Pushed P w w') : ∃ g cap, w'.cell? ⟨P, 0, none⟩ = some (.slice (some ⟨g, 0, none⟩) 1 cap) := by
  obtain ⟨g, cap, w1, hb, rfl⟩ := h
  have hc := (hb.cell (p := ⟨P, 0, none⟩) (World.block_lt_of_cell? w _ hP)).trans hP
  exact ⟨g, cap, World.cell?_setCell_same _ _ _ hc⟩
theorem m_push (a : Addr) (w : World) : (method 299 150 (.pointer (some a)) "Push").run Try.prog w = .ok (129, .pointer (some a)) w := by kernel_rfl
theorem i37 : ((Try.prog.info? 150).map fun i => (i.methods.find? (·.name == "Len")).map fun m => (m.func, m.path)) = some (some (some (125, false), #[])) := by kernel_rfl
theorem load33 (a : Addr) (x : Option Addr) (n c : Nat) (w : World) (h : w.cell? a = some (.slice x n c)) : (loadVar 146 a).run Try.prog w = .ok (.slice x n c) w := by
  have hr : (Instr.loadAt 146 (.pointer (some a))).run Try.prog w = .ok (.slice x n c) w := by go_simp
  simpa [Instr.loadAt, Instr.sureAddr] using hr
theorem meth_val {P : Program} {n t e : Nat} {i : TypeInfo} {m : _} {f : FuncId} {name : String} {a : Addr} {x : Value} {w : World} (hi : P.info? t = some i) (hm : i.methods.find? (·.name == name) = some m) (hpe : m.path = #[]) (hfn : m.func = some (f, false))
    (hu : P.underlying t = some (.pointer e)) (hl : (loadVar e a).run P w = .ok x w) : (method (n + 1) t (.pointer (some a)) name).run P w = .ok (f, x) w := by
  have hp' : m.path.toList = [] := by rw [hpe]
  have hssa : ∀ nm : String, (Builtin.ssaWrapNilChk_ #[t] t #[.pointer (some a), strVal "", strVal nm]).run P w = .ok (.pointer (some a)) w := fun nm => rfl
  simp [method, run_typeInfo w hi, hm, hp', hpe, follow, hfn, receiverAt, run_underlying hu, Place.get, hssa, asAddr, hl]
theorem m_len (a : Addr) (x : Option Addr) (n c : Nat) (w : World) (h : w.cell? a = some (.slice x n c)) : (method 299 150 (.pointer (some a)) "Len").run Try.prog w = .ok (125, .slice x n c) w := by
  have hl := load33 a x n c w h
  have hu : Try.prog.underlying 150 = some (.pointer 146) := by kernel_rfl
  have hi := i37
  cases hin : Try.prog.info? 150 with
  | none => rw [hin] at hi; cases hi
  | some i =>
    rw [hin] at hi
    simp only [Option.map_some, Option.some.injEq] at hi
    cases hm : i.methods.find? (·.name == "Len") with
    | none => rw [hm] at hi; cases hi
    | some m =>
      rw [hm] at hi
      simp only [Option.map_some, Option.some.injEq, Prod.mk.injEq] at hi
      exact meth_val hin hm hi.2 hi.1 hu hl
set_option maxRecDepth 100000 in
set_option maxHeartbeats 400000 in
theorem up0 (a : Addr) (w : World) : Calls Try.prog 97 #[.iface 150 (.pointer (some a)), .int .i64 0] w fun e w' => e = .returned (.tuple #[]) ∧ w' = w := by
  go_enter Try.func97, Try.ntmps97
  go_wp2
  go_loop [1] (fun j => j = .int .i64 0) (fun _ => 0)
  case atStart => rfl
  case round =>
    subst hrel
    go_wp2
    go_end0
    exact ⟨rfl, rfl⟩
set_option maxRecDepth 100000 in
set_option maxHeartbeats 400000 in
theorem hpush_any (P : Nat) (n : Int) (w : World) (hP : w.cell? ⟨P, 0, none⟩ = some (.slice none 0 0)) (hF : w.frozen? ⟨P, 0, none⟩ = false) :
    Calls Try.prog 77 #[.iface 150 (.pointer (some ⟨P, 0, none⟩)), .iface 3 (.int .i64 n)] w fun e w' => e = .returned (.tuple #[]) ∧ Pushed P w w' := by
  have hm1 := m_push ⟨P, 0, none⟩
  go_enter Try.func77, Try.ntmps77
  go_wp2_with (first
    | (go_at_call 129; refine (npush_any P n _ hP hF).mono ?_; rintro e w1 ⟨rfl, hq⟩; obtain ⟨g, cap, hc⟩ := hq.cell hP; have hm2 := m_len _ _ _ _ _ hc)
    | (go_at_call 97; refine (up0 _ _).mono ?_; rintro e w2 ⟨rfl, rfl⟩)
    | go_in
    | fail)
  go_end0
  exact ⟨rfl, hq⟩
end Go.Proofs.Ytndmpdpmfieacaa
