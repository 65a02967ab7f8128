/-
  The law PackTells at any text, words, length; no condition beyond lengths that fit an int.
-/
import Derived.Test.YtkobgejeapcfkaaPkM
import Derived.Test.YtkobgejeapcfkaaPk4
import Derived.WalkLawsBesides
import Derived.Laws.Concat
namespace Go.Proofs.Ytkobgejeapcfkaa
open Go.RowKit Go.WideShapes Go.ChangeShapes
set_option linter.all false
def cntI (n : Int) : Int := if n ≤ 0 then 0 else (n - 1) / 8 + 1
theorem countI_any (n : Int) (w : World) (h : n ≤ 9223372036854775807) : Calls Try.prog 41 #[.int .i64 n] w fun e w' => e = .returned (.int .i64 (cntI n)) ∧ w = w' := by
  by_cases h0 : n ≤ 0
  · have e : cntI n = 0 := if_pos h0
    rw [e]
    go_enter Try.func41, Try.ntmps41
    go_wp2
    go_ret
    exact ⟨rfl, rfl⟩
  · have e : cntI n = (n - 1) / 8 + 1 := if_neg h0
    rw [e]
    go_enter Try.func41, Try.ntmps41
    go_wp2
    go_ret
    exact ⟨rfl, rfl⟩
def badV : Value := .tuple #[.string ⟨#[]⟩, .int .i64 1]
theorem pbytes_bad (A : Option Addr) (n c : Nat) (m : Int) (w : World) (hn : n ≤ 1000) (hm : m < 0 ∨ 8 * (n : Int) < m) :
    Calls Try.prog 43 #[.slice A n c, .int .i64 m] w fun e w' => e = .returned badV ∧ w = w' := by
  by_cases h0 : m < 0
  · go_enter Try.func43, Try.ntmps43
    go_wp2
    go_ret2
    exact ⟨rfl, rfl⟩
  · have h1 : 8 * (n : Int) < m := by omega
    go_enter Try.func43, Try.ntmps43
    go_wp2
    go_ret2
    exact ⟨rfl, rfl⟩
theorem rbytes_bad (A : Option Addr) (n c : Nat) (m : Int) (w : World) (hn : n ≤ 1000) (hm : m < 0 ∨ 8 * (n : Int) < m) :
    Calls Try.prog 26 #[.slice A n c, .int .i64 m] w fun e w' => e = .returned badV ∧ w = w' := by
  by_cases h0 : m < 0
  · go_enter Try.func26, Try.ntmps26
    go_wp2
    go_ret2
    exact ⟨rfl, rfl⟩
  · have h1 : 8 * (n : Int) < m := by omega
    go_enter Try.func26, Try.ntmps26
    go_wp2
    go_ret2
    exact ⟨rfl, rfl⟩
end Go.Proofs.Ytkobgejeapcfkaa
