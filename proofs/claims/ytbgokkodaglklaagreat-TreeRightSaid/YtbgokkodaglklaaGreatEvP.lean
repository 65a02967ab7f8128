/-
  A verified evaluator of the model's code, part P (own work): no condition; the theorem 'sound' of its last part is what a claim uses.
-/
import Derived.Test.YtbgokkodaglklaaGreatEvU
namespace Go.Ev
set_option linter.all false
set_option linter.unusedVariables false
set_option linter.unusedSimpArgs false
set_option linter.unusedSectionVars false
set_option linter.unnecessarySimpa false
open Go Go.RowKit
variable [Tok] [Sym]
/-! a call that hands back a new pointer and nought -/
noncomputable def isNew : Res → Bool
  | .val (.tuple ⟨[.pointer (some _), .int .i64 z]⟩) _ => decide (z = 0)
  | _ => false
theorem isNew_spec {r : Res} (h : isNew r = true) : ∃ a s', r = .val (.tuple #[.pointer (some a), .int .i64 0]) s' := by
  unfold isNew at h
  split at h
  · rename_i a z s'
    have : z = 0 := by simpa using h
    subst this
    exact ⟨a, s', rfl⟩
  · cases h
theorem calls_new {P : Program} {orc : Orc} (hs : SymOk P) (ho : OrcOk P orc) (hm : P.follows .mixedOrders = true) {n g : Nat} {args : List Value} (ha : ∀ v ∈ args, Wf 0 v) (h : isNew (runF P orc n (.fn g args st0)) = true) (w : World) :
    Calls P g (args.map (ren γ0)).toArray w fun e w' => ∃ p, e = .returned (.tuple #[.pointer (some p), .int .i64 0]) ∧ Below w.heap.size w w' := by
  rw [runF_eq] at h
  obtain ⟨a, s', h⟩ := isNew_spec h
  have := (sound hs ho hm n).1.2 g args st0 _ s' h (fun k => k < w.heap.size) γ0 w (R.zero _ w) ha
  refine this.mono ?_
  rintro e w' ⟨γ', rfl, _, _, _, hb, _⟩
  exact ⟨γ'.at a, rfl, hb.below⟩
end Go.Ev
