/-
  An entry that comes in as an argument, opened; no condition.
-/
import Derived.Test.YtbfmklaakjepaaaDoorFr
import Derived.Lib.SmallJoins
namespace Go.Proofs.YtbfmklaakjepaaaDoor
open Go.RowKit Go.WideShapes Go.ChangeShapes Go.ChangeAt Go.Deep Go.Joins
set_option linter.all false
section
variable {H : Type} {enc : TypeId × Value → H}
theorem open_leaf {W : World} {v : Value} {d : DataW H} {pl : List MemPlace} {base : Nat} (hok : Value.okWide Tryd.prog W .any base 23 v) (h : DataW.Trod enc Tryd.prog W 0 (fun _ => true) true 23 v d pl) :
    ∃ (s : ByteArray) (n : Int), v = .agg #[.string s, .int .i64 n] ∧ s.size ≤ maxLen := by
  obtain ⟨v0, v1, y0, y1, n, rfl, rfl, rfl, h0, h1⟩ := open_agg2 Tryd.underlying23 (by kernel_rfl) (by kernel_rfl) hok h
  obtain ⟨s, e0, _, hs⟩ := DataW.trod_string Tryd.underlying9 h0
  obtain ⟨z, e1, _, _⟩ := DataW.trod_int Tryd.underlying3 h1
  simp only [List.cons.injEq, and_true] at e0 e1
  subst e0 e1
  exact ⟨s, z, rfl, hs⟩
end
end Go.Proofs.YtbfmklaakjepaaaDoor
