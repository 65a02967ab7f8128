/-
  word.Ref at a slot and a generation that may be, and back: Parts, noRef; conditions: these.
-/
import Derived.Test.YtononinmjijhoaaBase
import Derived.Lib.Hide
import Derived.LoopTactic
import Derived.BigRegion
import Derived.Laws.Small
import Derived.Laws.Cover1
import Derived.Laws.BitsLemmas
import Derived.OwnWalk
namespace Go.Proofs.Ytononinmjijhoaa
open Go.RowKit Go.WideShapes Go.ChangeShapes
set_option linter.all false
theorem wraps_i64 (n : Int) (h₀ : 0 ≤ n) (h₁ : n < 2 ^ 63) : IntKind.i64.wrap n = n := by
  have h2 : ¬ n % 18446744073709551616 ≥ 9223372036854775808 := by omega
  simp [IntKind.wrap, IntKind.bits, IntKind.signed, h2]
  omega
def refV (s g : Int) (l : Bool) : Int := g * 65536 + s + (if l = true then 281474976710656 else 0)
theorem or_ref (s g : Int) (h0 : 0 ≤ s) (h1 : s < 1024) (h2 : 1 ≤ g) (h3 : g ≤ 1073741824) : bits .or .i64 (g * 65536) s = g * 65536 + s := by
  have := bits_join .i64 63 (by decide) wraps_i64 16 (g * 65536) s (by omega) (by simp only [Int.reducePow]; omega) (by simp only [Int.reducePow]; omega) (by omega) (by simp only [Int.reducePow]; omega) (by omega)
  rw [this]
theorem or_comm_i64 (x y : Int) : bits .or .i64 x y = bits .or .i64 y x := by
  simp only [bits, BitVec.or_comm]
theorem or_leaf (s g : Int) (h0 : 0 ≤ s) (h1 : s < 1024) (h2 : 1 ≤ g) (h3 : g ≤ 1073741824) : bits .or .i64 (g * 65536 + s) 281474976710656 = g * 65536 + s + 281474976710656 := by
  rw [or_comm_i64]
  have := bits_join .i64 63 (by decide) wraps_i64 48 281474976710656 (g * 65536 + s) (by omega) (by simp only [Int.reducePow]; omega) (by simp only [Int.reducePow]; omega) (by omega) (by simp only [Int.reducePow]; omega) (by omega)
  rw [this]; omega
set_option maxRecDepth 100000 in
theorem ref_any (s g : Int) (l : Bool) (h0 : 0 ≤ s) (h1 : s < 1024) (h2 : 1 ≤ g) (h3 : g ≤ 1073741824) (w : World) :
    Calls Try.prog 17 #[.int .i64 s, .int .i64 g, .bool l] w fun e w' => e = .returned (.int .i64 (refV s g l)) ∧ w' = w := by
  have a0 : ¬ s < 0 := by omega
  have a1 : ¬ (1024 : Int) ≤ s := by omega
  have a2 : ¬ g < 1 := by omega
  have a3 : ¬ (1073741824 : Int) < g := by omega
  have H1 := Lib.hid (or_ref s g h0 h1 h2 h3)
  have H2 := Lib.hid (or_leaf s g h0 h1 h2 h3)
  cases l
  · go_enter Try.func17, Try.ntmps17
    go_wp2
    go_ret
    exact ⟨by show Ending.returned (Value.int .i64 (bits .or .i64 (g * 65536) s)) = _; rw [H1.out]; simp [refV], rfl⟩
  · go_enter Try.func17, Try.ntmps17
    go_wp2
    go_ret
    exact ⟨by show Ending.returned (Value.int .i64 (bits .or .i64 (bits .or .i64 (g * 65536) s) 281474976710656)) = _; rw [H1.out, H2.out]; simp [refV], rfl⟩
set_option maxRecDepth 100000 in
set_option maxHeartbeats 800000 in
theorem parts_any (s g : Int) (l : Bool) (h0 : 0 ≤ s) (h1 : s < 1024) (h2 : 1 ≤ g) (h3 : g ≤ 1073741824) (w : World) :
    Calls Try.prog 45 #[.int .i64 (refV s g l)] w fun e w' => e = .returned (.tuple #[.int .i64 s, .int .i64 g, .bool l, .bool true]) ∧ w' = w := by
  obtain ⟨x, hx⟩ : ∃ x, x = refV s g l := ⟨_, rfl⟩
  have HX := Lib.hid hx
  have hx1 : 65536 ≤ x := by rw [hx]; unfold refV; split <;> omega
  have hx0 : 0 ≤ x := by omega
  have hx9 : x < 9223372036854775808 := by rw [hx]; unfold refV; split <;> omega
  have hxn : (x == 0) = false := by simp <;> omega
  have hxm : ¬ x = 0 := by simpa using hxn
  have B1 : Hid (bits .and .i64 x 65535 = s) := Lib.hid (by
    have := bits_mask .i64 63 (by decide) wraps_i64 16 (by decide) x (by omega) (by omega)
    simp only [Int.reducePow, Int.reduceSub] at this
    rw [this, hx]; unfold refV; split <;> omega)
  have B2 : Hid (bits .and .i64 (x / 65536) 4294967295 = g) := Lib.hid (by
    have := bits_mask .i64 63 (by decide) wraps_i64 32 (by decide) (x / 65536) (by omega) (by omega)
    simp only [Int.reducePow, Int.reduceSub] at this
    rw [this, hx]; unfold refV; split <;> omega)
  have B3 : Hid ((bits .and .i64 (x / 281474976710656) 1 == 1) = l) := Lib.hid (by
    have := bits_mask .i64 63 (by decide) wraps_i64 1 (by decide) (x / 281474976710656) (by omega) (by omega)
    simp only [Int.reducePow, Int.reduceSub] at this
    rw [this, hx]; unfold refV
    cases l
    · have : (g * 65536 + s + (if false = true then 281474976710656 else 0)) / 281474976710656 % 2 = 0 := by simp <;> omega
      rw [this]; rfl
    · have : (g * 65536 + s + (if true = true then 281474976710656 else 0)) / 281474976710656 % 2 = 1 := by simp <;> omega
      rw [this]; rfl)
  have HXX : Hid ((x != x) = false) := Lib.hid (by simp)
  have hne := HXX.out
  rw [← hx]
  clear hx
  go_enter Try.func45, Try.ntmps45
  go_wp2_with (first
    | (go_at_call 17; rw [B1.out, B2.out, B3.out]; refine (ref_any s g l h0 h1 h2 h3 _).mono ?_; rintro e w' ⟨rfl, rfl⟩; rw [← HX.out])
    | fail)
  exact bodyPost_ret (v := .tuple #[.int .i64 s, .int .i64 g, .bool l, .bool true]) (by simp [results, Try.results45, go_sem, B1.out, B2.out, B3.out]) rfl ⟨rfl, rfl⟩
set_option maxRecDepth 100000 in
theorem noRef_any (s g : Int) (l : Bool) (h0 : 0 ≤ s) (h1 : s < 1024) (h2 : 1 ≤ g) (h3 : g ≤ 1073741824) (w : World) :
    Calls Try.prog 29 #[.int .i64 (refV s g l)] w fun e w' => e = .returned (.bool false) ∧ w' = w := by
  obtain ⟨x, hx⟩ : ∃ x, x = refV s g l := ⟨_, rfl⟩
  have HX := Lib.hid hx
  rw [← hx]
  clear hx
  go_enter Try.func29, Try.ntmps29
  go_wp2_with (first
    | (go_at_call 45; rw [HX.out]; refine (parts_any s g l h0 h1 h2 h3 _).mono ?_; rintro e w' ⟨rfl, rfl⟩)
    | fail)
  go_ret
  exact ⟨rfl, rfl⟩
end Go.Proofs.Ytononinmjijhoaa
