/-
  The law PackCounts at whatever number, and the closed laws WordRuns and PackRuns: reckoned by a verified evaluator; no condition.
-/
import Derived.Test.YthhfjcejcamfbaaBase
import Derived.Test.YthhfjcejcamfbaaEvU
namespace Go.Proofs.Ythhfjcejcamfbaa
open Go.RowKit
set_option linter.all false
set_option maxRecDepth 1000000
theorem wordRuns_any (w : World) : Calls Try.prog 10 #[] w fun e w' => e = .returned (.bool true) ∧ Below w.heap.size w w' := by
  letI : Ev.Tok := ⟨fun _ => 0, fun _ => ByteArray.empty⟩
  letI : Ev.Sym := Ev.noSym
  have h : Ev.isTrue (@Ev.runF Ev.noSym Try.prog Ev.noOrc 40000 (.fn 10 [] Ev.st0)) = true := by kernel_rfl
  exact @Ev.calls_true_args _ Ev.noSym Try.prog _ (Ev.noSym_ok _) Ev.noOrc_ok mixed 40000 10 [] (by simp) (Ev.fast h) w
theorem packRuns_any (w : World) : Calls Try.prog 17 #[] w fun e w' => e = .returned (.bool true) ∧ Below w.heap.size w w' := by
  letI : Ev.Tok := ⟨fun _ => 0, fun _ => ByteArray.empty⟩
  letI : Ev.Sym := Ev.noSym
  have h : Ev.isTrue (@Ev.runF Ev.noSym Try.prog Ev.noOrc 40000 (.fn 17 [] Ev.st0)) = true := by kernel_rfl
  exact @Ev.calls_true_args _ Ev.noSym Try.prog _ (Ev.noSym_ok _) Ev.noOrc_ok mixed 40000 17 [] (by simp) (Ev.fast h) w
/-- The number that Within brings into bounds, as a token. -/
theorem tRow_within [Ev.Tok] {i j h : Nat} (h9 : h ≤ 1099511627776) (hk : withinV (Ev.Tok.tok i) ((h + 1 : Nat) : Int) = Ev.Tok.tok j) : (Ev.ORow.mk 7 [tk i, num 0, num h] (tk j)).ok Try.prog := by
  refine ⟨trivial, fun γ w => (within_any (Ev.Tok.tok i) h (by omega) (by omega) w).mono fun e w' ⟨he, hw⟩ => ⟨?_, by subst hw; exact Below.refl _ _⟩⟩
  rw [he, show ((h : Int) + 1) = ((h + 1 : Nat) : Int) from by omega, hk]; rfl
theorem tRow_within0 [Ev.Tok] {i h k : Nat} (h9 : h ≤ 1099511627776) (hk : withinV (Ev.Tok.tok i) ((h + 1 : Nat) : Int) = k) : (Ev.ORow.mk 7 [tk i, num 0, num h] (num k)).ok Try.prog := by
  refine ⟨trivial, fun γ w => (within_any (Ev.Tok.tok i) h (by omega) (by omega) w).mono fun e w' ⟨he, hw⟩ => ⟨?_, by subst hw; exact Below.refl _ _⟩⟩
  rw [he, show ((h : Int) + 1) = ((h + 1 : Nat) : Int) from by omega, hk]; rfl
def cRows : List Ev.BRow := [⟨.add, tk 1, num 8, tk 2⟩, ⟨.leq, tk 2, num 0, .bool false⟩, ⟨.sub, tk 2, num 1, tk 3⟩, ⟨.quo, tk 3, num 8, tk 4⟩, ⟨.add, tk 4, num 1, tk 5⟩, ⟨.leq, tk 1, num 0, .bool false⟩, ⟨.sub, tk 1, num 1, tk 6⟩, ⟨.quo, tk 6, num 8, tk 7⟩, ⟨.add, tk 7, num 1, tk 8⟩, ⟨.add, tk 8, num 1, tk 9⟩, ⟨.eql, tk 5, tk 9, .bool true⟩, ⟨.sub, .int .i64 (-1), tk 1, tk 10⟩, ⟨.leq, tk 10, num 0, .bool true⟩, ⟨.mul, num 8, tk 8, tk 11⟩, ⟨.geq, tk 11, tk 1, .bool true⟩, ⟨.lss, tk 11, tk 2, .bool true⟩]
theorem counts_pos : Ev.isTrue (@Ev.runF (Ev.tabSym cRows [] []) Try.prog (Ev.orcOf [⟨7, [tk 0, num 0, num 1099511627776], tk 1⟩, tRow 10, tRow 17] [] []) 20000 (.fn 6 [tk 0] Ev.st0)) = true := by kernel_rfl
theorem counts_nil : Ev.isTrue (@Ev.runF Ev.noSym Try.prog (Ev.orcOf [⟨7, [tk 0, num 0, num 1099511627776], num 0⟩, tRow 10, tRow 17] [] []) 20000 (.fn 6 [tk 0] Ev.st0)) = true := by kernel_rfl
/-- The numbers behind the tokens. -/
def cTok (n k : Int) (i : Nat) : Int :=
  match i with
  | 0 => n
  | 1 => k
  | 2 => k + 8
  | 3 => k + 7
  | 4 => (k + 7) / 8
  | 5 => (k + 7) / 8 + 1
  | 6 => k - 1
  | 7 => (k - 1) / 8
  | 8 => (k - 1) / 8 + 1
  | 9 => (k - 1) / 8 + 1 + 1
  | 10 => -1 - k
  | _ => 8 * ((k - 1) / 8 + 1)
theorem w64 {x : Int} (h0 : -9223372036854775808 ≤ x) (h1 : x ≤ 9223372036854775807) : IntKind.i64.wrap x = x := by rw [IntKind.wrap_i64]; omega
theorem counts_any (n : Int) (w : World) : Calls Try.prog 6 #[.int .i64 n] w fun e w' => e = .returned (.bool true) ∧ Below w.heap.size w w' := by
  obtain ⟨k, hk, hlt⟩ := withinV_nat n 1099511627777 (by omega)
  by_cases h0 : k = 0
  · letI : Ev.Tok := ⟨fun _ => n, fun _ => ByteArray.empty⟩
    letI : Ev.Sym := Ev.noSym
    have hrows : ∀ r ∈ [⟨7, [tk 0, num 0, num 1099511627776], num 0⟩, tRow 10, tRow 17], r.ok Try.prog := by
      intro r hr
      simp only [List.mem_cons, List.not_mem_nil, or_false] at hr
      rcases hr with rfl | rfl | rfl
      · exact tRow_within0 (by omega) (by rw [← h0]; exact hk)
      · exact tRow_ok wordRuns_any
      · exact tRow_ok packRuns_any
    exact @Ev.calls_true_args _ Ev.noSym Try.prog _ (Ev.noSym_ok _) (Ev.orcOf_ok hrows (by simp) (by simp)) mixed 20000 6 [tk 0] (by simp [tk, Ev.Wf]) (Ev.fast counts_nil) w
  · letI : Ev.Tok := ⟨cTok n k, fun _ => ByteArray.empty⟩
    letI : Ev.Sym := Ev.tabSym cRows [] []
    have hrows : ∀ r ∈ [⟨7, [tk 0, num 0, num 1099511627776], tk 1⟩, tRow 10, tRow 17], r.ok Try.prog := by
      intro r hr
      simp only [List.mem_cons, List.not_mem_nil, or_false] at hr
      rcases hr with rfl | rfl | rfl
      · exact tRow_within (by omega) hk
      · exact tRow_ok wordRuns_any
      · exact tRow_ok packRuns_any
    have h1 : (1 : Int) ≤ k := by omega
    have h2 : (k : Int) ≤ 1099511627776 := by omega
    have q1 : ((k : Int) + 7).tdiv 8 = ((k : Int) + 7) / 8 := Int.tdiv_eq_ediv_of_nonneg (by omega)
    have q2 : ((k : Int) - 1).tdiv 8 = ((k : Int) - 1) / 8 := Int.tdiv_eq_ediv_of_nonneg (by omega)
    have int : ∀ {op : BinOp} {x y v : Value} {a b : Int} {u : Value}, Ev.isShift op = false → (∀ γ, Ev.ren γ x = .int .i64 a) → (∀ γ, Ev.ren γ y = .int .i64 b) → Ev.evInt op .i64 a b = some u → (∀ γ, Ev.ren γ v = u) → Ev.Wf 0 v → (Ev.BRow.mk op x y v).ok Try.prog :=
      fun hs hx hy he hv hw => Ev.brow_int hs hx hy he hv hw
    have hb : ∀ r ∈ cRows, r.ok Try.prog := by
      intro r hr
      simp only [cRows, List.mem_cons, List.not_mem_nil, or_false] at hr
      rcases hr with rfl | rfl | rfl | rfl | rfl | rfl | rfl | rfl | rfl | rfl | rfl | rfl | rfl | rfl | rfl | rfl
      · exact int (a := k) (b := 8) rfl (fun _ => rfl) (fun _ => rfl) rfl (fun _ => by rw [w64 (by omega) (by omega)]; rfl) trivial
      · exact int (a := (k : Int) + 8) (b := 0) rfl (fun _ => rfl) (fun _ => rfl) rfl (fun _ => by rw [decide_eq_false (by omega)]; rfl) trivial
      · exact int (a := (k : Int) + 8) (b := 1) rfl (fun _ => rfl) (fun _ => rfl) rfl (fun _ => by rw [w64 (by omega) (by omega), show (k : Int) + 8 - 1 = k + 7 from by omega]; rfl) trivial
      · exact int (a := (k : Int) + 7) (b := 8) (u := .int .i64 (IntKind.i64.wrap (((k : Int) + 7).tdiv 8))) rfl (fun _ => rfl) (fun _ => rfl) rfl (fun _ => by rw [q1, w64 (by omega) (by omega)]; rfl) trivial
      · exact int (a := ((k : Int) + 7) / 8) (b := 1) rfl (fun _ => rfl) (fun _ => rfl) rfl (fun _ => by rw [w64 (by omega) (by omega)]; rfl) trivial
      · exact int (a := k) (b := 0) rfl (fun _ => rfl) (fun _ => rfl) rfl (fun _ => by rw [decide_eq_false (by omega)]; rfl) trivial
      · exact int (a := k) (b := 1) rfl (fun _ => rfl) (fun _ => rfl) rfl (fun _ => by rw [w64 (by omega) (by omega)]; rfl) trivial
      · exact int (a := (k : Int) - 1) (b := 8) (u := .int .i64 (IntKind.i64.wrap (((k : Int) - 1).tdiv 8))) rfl (fun _ => rfl) (fun _ => rfl) rfl (fun _ => by rw [q2, w64 (by omega) (by omega)]; rfl) trivial
      · exact int (a := ((k : Int) - 1) / 8) (b := 1) rfl (fun _ => rfl) (fun _ => rfl) rfl (fun _ => by rw [w64 (by omega) (by omega)]; rfl) trivial
      · exact int (a := ((k : Int) - 1) / 8 + 1) (b := 1) rfl (fun _ => rfl) (fun _ => rfl) rfl (fun _ => by rw [w64 (by omega) (by omega)]; rfl) trivial
      · exact int (a := ((k : Int) + 7) / 8 + 1) (b := ((k : Int) - 1) / 8 + 1 + 1) rfl (fun _ => rfl) (fun _ => rfl) rfl (fun _ => by rw [show ((k : Int) + 7) / 8 + 1 = ((k : Int) - 1) / 8 + 1 + 1 from by omega, beq_self_eq_true]; rfl) trivial
      · exact int (a := -1) (b := k) rfl (fun _ => rfl) (fun _ => rfl) rfl (fun _ => by rw [w64 (by omega) (by omega)]; rfl) trivial
      · exact int (a := -1 - (k : Int)) (b := 0) rfl (fun _ => rfl) (fun _ => rfl) rfl (fun _ => by rw [decide_eq_true (by omega)]; rfl) trivial
      · exact int (a := 8) (b := ((k : Int) - 1) / 8 + 1) rfl (fun _ => rfl) (fun _ => rfl) rfl (fun _ => by rw [w64 (by omega) (by omega)]; rfl) trivial
      · exact int (a := 8 * (((k : Int) - 1) / 8 + 1)) (b := k) rfl (fun _ => rfl) (fun _ => rfl) rfl (fun _ => by rw [decide_eq_true (by omega)]; rfl) trivial
      · exact int (a := 8 * (((k : Int) - 1) / 8 + 1)) (b := (k : Int) + 8) rfl (fun _ => rfl) (fun _ => rfl) rfl (fun _ => by rw [decide_eq_true (by omega)]; rfl) trivial
    exact @Ev.calls_true_args _ (Ev.tabSym cRows [] []) Try.prog _ (Ev.tabSym_ok hb (by simp) (by simp)) (Ev.orcOf_ok hrows (by simp) (by simp)) mixed 20000 6 [tk 0] (by simp [tk, Ev.Wf]) (Ev.fast counts_pos) w
end Go.Proofs.Ythhfjcejcamfbaa
