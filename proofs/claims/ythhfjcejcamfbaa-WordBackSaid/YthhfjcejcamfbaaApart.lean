/-
  The law WordApart at whatever words: reckoned by a verified evaluator, the words being tokens; no condition but that they are words.
-/
import Derived.Test.YthhfjcejcamfbaaCounts
import Derived.Laws.BitsAllLaws
namespace Go.Proofs.Ythhfjcejcamfbaa
open Go.RowKit
set_option linter.all false
set_option maxRecDepth 1000000
/-- The token of a word. -/
def tu (i : Nat) : Value := .complex .f64 i 1
def un (k : Nat) : Value := .int .u64 (Int.ofNat k)
theorem nat_and3 (a : Nat) : a &&& 3 = a % 4 := Nat.and_two_pow_sub_one_eq_mod a 2
theorem nat_and2 (a : Nat) : a &&& 2 = (a / 2 % 2) * 2 := by
  have h : a &&& 2 = (a % 4) &&& 2 := by rw [← nat_and3, Nat.and_assoc]; rfl
  rw [h]
  have q : a % 4 = 0 ∨ a % 4 = 1 ∨ a % 4 = 2 ∨ a % 4 = 3 := by omega
  rcases q with q | q | q | q
  · rw [q, show a / 2 % 2 = 0 from by omega]; rfl
  · rw [q, show a / 2 % 2 = 0 from by omega]; rfl
  · rw [q, show a / 2 % 2 = 1 from by omega]; rfl
  · rw [q, show a / 2 % 2 = 1 from by omega]; rfl
theorem nat_off3 (a : Nat) (h : a < 18446744073709551616) : a &&& (18446744073709551615 - 3) = 4 * (a / 4) := by
  apply Nat.eq_of_testBit_eq
  intro i
  rw [Nat.testBit_and, show 4 * (a / 4) = (a / 2 ^ 2) * 2 ^ 2 from by omega, show 18446744073709551615 - 3 = (2 ^ 62 - 1) * 2 ^ 2 from by decide, Nat.testBit_mul_two_pow, Nat.testBit_mul_two_pow, Nat.testBit_two_pow_sub_one, Nat.testBit_div_two_pow]
  by_cases h2 : 2 ≤ i
  · rw [show i - 2 + 2 = i from by omega]
    by_cases h3 : i - 2 < 62
    · simp [h2, h3]
    · have : a.testBit i = false := Nat.testBit_lt_two_pow (Nat.lt_of_lt_of_le h (by
        have : 2 ^ 64 ≤ 2 ^ i := Nat.pow_le_pow_right (by decide) (by omega)
        omega))
      simp [h2, h3, this]
  · simp [h2]
theorem nat_or (p b : Nat) (h : b < 4) : 4 * p ||| b = 4 * p + b := (Nat.two_pow_add_eq_or_of_lt (i := 2) h p).symm
def aRows (e : Bool) : List Ev.BRow := [⟨.andNot, tu 0, un 3, tu 2⟩, ⟨.andNot, tu 1, un 3, tu 3⟩, ⟨.and, tu 2, un 3, un 0⟩, ⟨.and, tu 3, un 3, un 0⟩, ⟨.or, tu 2, un 1, tu 4⟩, ⟨.or, tu 3, un 1, tu 5⟩, ⟨.eql, tu 4, tu 5, .bool e⟩, ⟨.eql, tu 2, tu 3, .bool e⟩,
  ⟨.andNot, tu 4, un 3, tu 2⟩, ⟨.andNot, tu 5, un 3, tu 3⟩, ⟨.add, tu 2, un 4, tu 6⟩, ⟨.add, tu 3, un 4, tu 7⟩, ⟨.eql, tu 6, tu 7, .bool e⟩, ⟨.or, tu 6, un 2, tu 8⟩, ⟨.or, tu 7, un 2, tu 9⟩, ⟨.eql, tu 8, tu 9, .bool e⟩,
  ⟨.neq, tu 4, tu 6, .bool true⟩, ⟨.neq, tu 6, tu 8, .bool true⟩, ⟨.and, tu 4, un 3, un 1⟩, ⟨.and, tu 4, un 2, un 0⟩, ⟨.and, tu 8, un 2, un 2⟩]
theorem apart_same : Ev.isTrue (@Ev.runF (Ev.tabSym (aRows true) [] []) Try.prog (Ev.orcOf [tRow 10] [] []) 20000 (.fn 5 [tu 0, tu 1] Ev.st0)) = true := by kernel_rfl
theorem apart_other : Ev.isTrue (@Ev.runF (Ev.tabSym (aRows false) [] []) Try.prog (Ev.orcOf [tRow 10] [] []) 20000 (.fn 5 [tu 0, tu 1] Ev.st0)) = true := by kernel_rfl
def aTok (a b i : Nat) : Nat :=
  match i with
  | 0 => a
  | 1 => b
  | 2 => 4 * (a / 4)
  | 3 => 4 * (b / 4)
  | 4 => 4 * (a / 4) + 1
  | 5 => 4 * (b / 4) + 1
  | 6 => (4 * (a / 4) + 4) % 18446744073709551616
  | 7 => (4 * (b / 4) + 4) % 18446744073709551616
  | 8 => (4 * (a / 4) + 4) % 18446744073709551616 + 2
  | _ => (4 * (b / 4) + 4) % 18446744073709551616 + 2
section
variable [Ev.Tok] [Ev.Sym]
theorem row_and {x v : Value} {a b r : Nat} (ha : a < 18446744073709551616) (hb : b < 18446744073709551616) (hx : ∀ γ, Ev.ren γ x = .int .u64 a) (hr : a &&& b = r) (hv : ∀ γ, Ev.ren γ v = .int .u64 r) (hw : Ev.Wf 0 v) : (Ev.BRow.mk .and x (un b) v).ok Try.prog :=
  Ev.brow_int (k := .u64) (a := a) (b := b) rfl hx (fun _ => rfl) (u := .int .u64 (bits .and .u64 a b)) rfl (fun γ => by rw [u64_and_nat a b ha hb, hr]; exact hv γ) hw
theorem row_or {x v : Value} {a b r : Nat} (ha : a < 18446744073709551616) (hb : b < 18446744073709551616) (hx : ∀ γ, Ev.ren γ x = .int .u64 a) (hr : a ||| b = r) (hv : ∀ γ, Ev.ren γ v = .int .u64 r) (hw : Ev.Wf 0 v) : (Ev.BRow.mk .or x (un b) v).ok Try.prog :=
  Ev.brow_int (k := .u64) (a := a) (b := b) rfl hx (fun _ => rfl) (u := .int .u64 (bits .or .u64 a b)) rfl (fun γ => by rw [u64_or_nat a b ha hb, hr]; exact hv γ) hw
theorem row_off3 {x v : Value} {a r : Nat} (ha : a < 18446744073709551616) (hx : ∀ γ, Ev.ren γ x = .int .u64 a) (hr : 4 * (a / 4) = r) (hv : ∀ γ, Ev.ren γ v = .int .u64 r) (hw : Ev.Wf 0 v) : (Ev.BRow.mk .andNot x (un 3) v).ok Try.prog :=
  Ev.brow_int (k := .u64) (a := a) (b := 3) rfl hx (fun _ => rfl) (u := .int .u64 (bits .andNot .u64 a (3 : Nat))) rfl (fun γ => by rw [u64_andNot_nat a 3 ha (by omega), nat_off3 a ha, hr]; exact hv γ) hw
theorem row_add {x v : Value} {a b r : Nat} (hx : ∀ γ, Ev.ren γ x = .int .u64 a) (hr : (a + b) % 18446744073709551616 = r) (hv : ∀ γ, Ev.ren γ v = .int .u64 r) (hw : Ev.Wf 0 v) : (Ev.BRow.mk .add x (un b) v).ok Try.prog :=
  Ev.brow_int (k := .u64) (a := a) (b := b) rfl hx (fun _ => rfl) (u := .int .u64 (IntKind.u64.wrap ((a : Int) + (b : Int)))) rfl (fun γ => by rw [IntKind.wrap_u64, show ((a : Int) + (b : Int)) % 18446744073709551616 = (r : Int) from by omega]; exact hv γ) hw
theorem row_eql {x y : Value} {a b : Nat} {e : Bool} (hx : ∀ γ, Ev.ren γ x = .int .u64 a) (hy : ∀ γ, Ev.ren γ y = .int .u64 b) (h : decide (a = b) = e) : (Ev.BRow.mk .eql x y (.bool e)).ok Try.prog :=
  Ev.brow_int (k := .u64) (a := a) (b := b) rfl hx hy (u := .bool ((a : Int) == (b : Int))) rfl (fun γ => by
    have : ((a : Int) == (b : Int)) = e := by
      rw [← h]
      by_cases q : a = b
      · simp [q]
      · have : ¬ (a : Int) = (b : Int) := by omega
        simp [q, this]
    rw [this]; rfl) trivial
theorem row_neq {x y : Value} {a b : Nat} (hx : ∀ γ, Ev.ren γ x = .int .u64 a) (hy : ∀ γ, Ev.ren γ y = .int .u64 b) (h : ¬ a = b) : (Ev.BRow.mk .neq x y (.bool true)).ok Try.prog :=
  Ev.brow_int (k := .u64) (a := a) (b := b) rfl hx hy (u := .bool ((a : Int) != (b : Int))) rfl (fun γ => by
    have : ¬ (a : Int) = (b : Int) := by omega
    have : ((a : Int) != (b : Int)) = true := by simp [this]
    rw [this]; rfl) trivial
end
theorem apart_any (a b : Int) (ha : (Lit.int .u64 a).wf = true) (hb : (Lit.int .u64 b).wf = true) (w : World) : Calls Try.prog 5 #[.int .u64 a, .int .u64 b] w fun e w' => e = .returned (.bool true) ∧ Below w.heap.size w w' := by
  have ha : 0 ≤ a ∧ a < 18446744073709551616 := by
    have h : IntKind.u64.min ≤ a ∧ a ≤ IntKind.u64.max := by simpa [Lit.wf] using ha
    have e1 : IntKind.u64.min = 0 := by decide
    have e2 : IntKind.u64.max = 18446744073709551615 := by decide
    omega
  have hb : 0 ≤ b ∧ b < 18446744073709551616 := by
    have h : IntKind.u64.min ≤ b ∧ b ≤ IntKind.u64.max := by simpa [Lit.wf] using hb
    have e1 : IntKind.u64.min = 0 := by decide
    have e2 : IntKind.u64.max = 18446744073709551615 := by decide
    omega
  obtain ⟨ha0, ha⟩ := ha
  obtain ⟨hb0, hb⟩ := hb
  obtain ⟨a, rfl⟩ := Int.eq_ofNat_of_zero_le ha0
  obtain ⟨b, rfl⟩ := Int.eq_ofNat_of_zero_le hb0
  have ha : a < 18446744073709551616 := by omega
  have hb : b < 18446744073709551616 := by omega
  letI : Ev.Tok := ⟨fun i => aTok a b i, fun _ => ByteArray.empty⟩
  have hrows : ∀ r ∈ [tRow 10], r.ok Try.prog := by
    intro r hr
    simp only [List.mem_cons, List.not_mem_nil, or_false] at hr
    subst hr
    exact tRow_ok wordRuns_any
  letI : Ev.Sym := Ev.noSym
  have hR : ∀ e, decide (a / 4 = b / 4) = e → ∀ r ∈ aRows e, r.ok Try.prog := by
    intro e he r hr
    have hE : ∀ x y : Nat, (x = y ↔ a / 4 = b / 4) → decide (x = y) = e := fun x y h => by rw [← he]; exact decide_eq_decide.2 h
    simp only [aRows, List.mem_cons, List.not_mem_nil, or_false] at hr
    rcases hr with rfl | rfl | rfl | rfl | rfl | rfl | rfl | rfl | rfl | rfl | rfl | rfl | rfl | rfl | rfl | rfl | rfl | rfl | rfl | rfl | rfl
    · exact row_off3 ha (fun _ => rfl) rfl (fun _ => rfl) trivial
    · exact row_off3 hb (fun _ => rfl) rfl (fun _ => rfl) trivial
    · exact row_and (a := 4 * (a / 4)) (r := 0) (by omega) (by omega) (fun _ => rfl) (by rw [nat_and3]; omega) (fun _ => rfl) trivial
    · exact row_and (a := 4 * (b / 4)) (r := 0) (by omega) (by omega) (fun _ => rfl) (by rw [nat_and3]; omega) (fun _ => rfl) trivial
    · exact row_or (a := 4 * (a / 4)) (by omega) (by omega) (fun _ => rfl) (nat_or _ 1 (by omega)) (fun _ => rfl) trivial
    · exact row_or (a := 4 * (b / 4)) (by omega) (by omega) (fun _ => rfl) (nat_or _ 1 (by omega)) (fun _ => rfl) trivial
    · exact row_eql (a := 4 * (a / 4) + 1) (b := 4 * (b / 4) + 1) (fun _ => rfl) (fun _ => rfl) (hE _ _ (by omega))
    · exact row_eql (a := 4 * (a / 4)) (b := 4 * (b / 4)) (fun _ => rfl) (fun _ => rfl) (hE _ _ (by omega))
    · exact row_off3 (a := 4 * (a / 4) + 1) (by omega) (fun _ => rfl) (r := 4 * (a / 4)) (by omega) (fun _ => rfl) trivial
    · exact row_off3 (a := 4 * (b / 4) + 1) (by omega) (fun _ => rfl) (r := 4 * (b / 4)) (by omega) (fun _ => rfl) trivial
    · exact row_add (a := 4 * (a / 4)) (fun _ => rfl) rfl (fun _ => rfl) trivial
    · exact row_add (a := 4 * (b / 4)) (fun _ => rfl) rfl (fun _ => rfl) trivial
    · exact row_eql (a := (4 * (a / 4) + 4) % 18446744073709551616) (b := (4 * (b / 4) + 4) % 18446744073709551616) (fun _ => rfl) (fun _ => rfl) (hE _ _ (by omega))
    · exact row_or (a := (4 * (a / 4) + 4) % 18446744073709551616) (r := (4 * (a / 4) + 4) % 18446744073709551616 + 2) (by omega) (by omega) (fun _ => rfl) (by
        rw [show (4 * (a / 4) + 4) % 18446744073709551616 = 4 * ((a / 4 + 1) % 4611686018427387904) from by omega]; exact nat_or _ 2 (by omega)) (fun _ => rfl) trivial
    · exact row_or (a := (4 * (b / 4) + 4) % 18446744073709551616) (r := (4 * (b / 4) + 4) % 18446744073709551616 + 2) (by omega) (by omega) (fun _ => rfl) (by
        rw [show (4 * (b / 4) + 4) % 18446744073709551616 = 4 * ((b / 4 + 1) % 4611686018427387904) from by omega]; exact nat_or _ 2 (by omega)) (fun _ => rfl) trivial
    · exact row_eql (a := (4 * (a / 4) + 4) % 18446744073709551616 + 2) (b := (4 * (b / 4) + 4) % 18446744073709551616 + 2) (fun _ => rfl) (fun _ => rfl) (hE _ _ (by omega))
    · exact row_neq (a := 4 * (a / 4) + 1) (b := (4 * (a / 4) + 4) % 18446744073709551616) (fun _ => rfl) (fun _ => rfl) (by omega)
    · exact row_neq (a := (4 * (a / 4) + 4) % 18446744073709551616) (b := (4 * (a / 4) + 4) % 18446744073709551616 + 2) (fun _ => rfl) (fun _ => rfl) (by omega)
    · exact row_and (a := 4 * (a / 4) + 1) (r := 1) (by omega) (by omega) (fun _ => rfl) (by rw [nat_and3]; omega) (fun _ => rfl) trivial
    · exact row_and (a := 4 * (a / 4) + 1) (r := 0) (by omega) (by omega) (fun _ => rfl) (by rw [nat_and2]; omega) (fun _ => rfl) trivial
    · exact row_and (a := (4 * (a / 4) + 4) % 18446744073709551616 + 2) (r := 2) (by omega) (by omega) (fun _ => rfl) (by rw [nat_and2]; omega) (fun _ => rfl) trivial
  cases he : decide (a / 4 = b / 4) with
  | true =>
    letI : Ev.Sym := Ev.tabSym (aRows true) [] []
    exact @Ev.calls_true_args _ (Ev.tabSym (aRows true) [] []) Try.prog _ (Ev.tabSym_ok (hR true he) (by simp) (by simp)) (Ev.orcOf_ok hrows (by simp) (by simp)) mixed 20000 5 [tu 0, tu 1] (by simp [tu, Ev.Wf]) (Ev.fast apart_same) w
  | false =>
    letI : Ev.Sym := Ev.tabSym (aRows false) [] []
    exact @Ev.calls_true_args _ (Ev.tabSym (aRows false) [] []) Try.prog _ (Ev.tabSym_ok (hR false he) (by simp) (by simp)) (Ev.orcOf_ok hrows (by simp) (by simp)) mixed 20000 5 [tu 0, tu 1] (by simp [tu, Ev.Wf]) (Ev.fast apart_other) w
end Go.Proofs.Ythhfjcejcamfbaa
