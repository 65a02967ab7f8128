/-
  The law WordTurns at whatever word and number of rounds: reckoned by a verified evaluator, the words being tokens; no condition but that they are words.
-/
import Derived.Test.YthhfjcejcamfbaaApart
namespace Go.Proofs.Ythhfjcejcamfbaa
open Go.RowKit
set_option linter.all false
set_option maxRecDepth 1000000
/-- Token 0 is the word given, token 1 the number of rounds; from 100 on, four to a round: the free word, it locked, it dead. -/
def tOp (op : BinOp) (i c : Nat) : Option Value :=
  if i < 100 then
    match op with
    | .andNot => if i = 0 ∧ c = 3 then some (tu 100) else none
    | _ => none
  else
    match op with
    | .andNot => if c = 3 ∧ (i - 100) % 4 < 2 then some (tu (i - (i - 100) % 4)) else none
    | .and => if c = 3 then some (un ((i - 100) % 4)) else if c = 2 then some (un ((i - 100) % 4 / 2 * 2)) else none
    | .or => if (i - 100) % 4 = 0 ∧ (c = 1 ∨ c = 2) then some (tu (i + c)) else none
    | .add => if (i - 100) % 4 = 0 ∧ c = 4 then some (tu (i + 4)) else none
    | _ => none
def tEq (op : BinOp) (i j : Nat) : Option Value :=
  match op with
  | .eql => if 100 ≤ j ∧ i = j then some (.bool true) else if 100 ≤ j ∧ i = j + 4 then some (.bool false) else none
  | .neq => if 100 ≤ j ∧ i = j then some (.bool false) else if 100 ≤ j ∧ i = j + 4 then some (.bool true) else none
  | _ => none
def tBin (op : BinOp) (x y : Value) : Option Value :=
  match x, y with
  | .complex .f64 i 1, .int .u64 (.ofNat c) => tOp op i c
  | .complex .f64 i 1, .complex .f64 j 1 => tEq op i j
  | _, _ => none
@[reducible] def tSym : Ev.Sym := ⟨tBin, fun _ _ => none, fun _ _ _ => none, fun _ => none⟩
def tVal (V i : Nat) : Nat := if i < 100 then V else 4 * ((V / 4 + (i - 100) / 4) % 4611686018427387904) + (i - 100) % 4
theorem tVal_lt {V i : Nat} (hV : V < 18446744073709551616) : tVal V i < 18446744073709551616 := by unfold tVal; split <;> omega
theorem tVal_hi {V i : Nat} (h : 100 ≤ i) : tVal V i = 4 * ((V / 4 + (i - 100) / 4) % 4611686018427387904) + (i - 100) % 4 := by unfold tVal; rw [if_neg (by omega)]
def tTok (V : Nat) (n : Int) (i : Nat) : Int := if i = 1 then n else tVal V i
theorem row_eqb [Ev.Tok] [Ev.Sym] {op : BinOp} {x y : Value} {a b : Nat} {e : Bool} (hx : ∀ γ, Ev.ren γ x = .int .u64 a) (hy : ∀ γ, Ev.ren γ y = .int .u64 b) (h : (op = .eql ∧ decide (a = b) = e) ∨ (op = .neq ∧ decide (a = b) = !e)) : (Ev.BRow.mk op x y (.bool e)).ok Try.prog := by
  rcases h with ⟨rfl, h⟩ | ⟨rfl, h⟩
  · exact row_eql hx hy h
  · refine Ev.brow_int (k := .u64) (a := a) (b := b) rfl hx hy (u := .bool ((a : Int) != (b : Int))) rfl (fun γ => ?_) trivial
    have h2 : ((a : Int) != (b : Int)) = !decide (a = b) := by
      by_cases q : a = b
      · simp [q]
      · have q2 : ¬ (a : Int) = (b : Int) := by omega
        simp [q, q2]
    have : ((a : Int) != (b : Int)) = e := by rw [h2, h]; simp
    rw [this]; rfl
theorem tBin_ok (V : Nat) (n : Int) (hV : V < 18446744073709551616) : letI : Ev.Tok := ⟨tTok V n, fun _ => ByteArray.empty⟩; letI : Ev.Sym := tSym; ∀ op x y v, tBin op x y = some v → (Ev.BRow.mk op x y v).ok Try.prog := by
  letI : Ev.Tok := ⟨tTok V n, fun _ => ByteArray.empty⟩
  letI : Ev.Sym := tSym
  intro op x y v h
  have hval : ∀ i, i ≠ 1 → ∀ γ, Ev.ren γ (tu i) = .int .u64 (tVal V i : Nat) := fun i hi γ => by
    show Value.int .u64 (tTok V n i) = _
    unfold tTok; rw [if_neg hi]
  have hlt := fun i => tVal_lt (i := i) hV
  unfold tBin at h
  split at h
  · rename_i i c
    unfold tOp at h
    split at h
    · split at h
      · split at h
        · rename_i hc
          injection h with h; subst h
          obtain ⟨rfl, rfl⟩ := hc
          exact row_off3 (hlt 0) (hval 0 (by omega)) (r := tVal V 100) (by rw [tVal_hi (i := 100) (by omega)]; unfold tVal; rw [if_pos (by omega)]; omega) (hval 100 (by omega)) trivial
        · cases h
      · cases h
    · rename_i hi
      have hi : 100 ≤ i := by omega
      split at h
      · split at h
        · rename_i hc
          injection h with h; subst h
          obtain ⟨rfl, ht⟩ := hc
          exact row_off3 (hlt i) (hval i (by omega)) (r := tVal V (i - (i - 100) % 4)) (by rw [tVal_hi hi, tVal_hi (by omega)]; omega) (hval _ (by omega)) trivial
        · cases h
      · split at h
        · rename_i hc
          injection h with h; subst h; subst hc
          exact row_and (hlt i) (by omega) (hval i (by omega)) (r := (i - 100) % 4) (by rw [nat_and3, tVal_hi hi]; omega) (fun _ => rfl) trivial
        · split at h
          · rename_i hc
            injection h with h; subst h; subst hc
            exact row_and (hlt i) (by omega) (hval i (by omega)) (r := (i - 100) % 4 / 2 * 2) (by rw [nat_and2, tVal_hi hi]; omega) (fun _ => rfl) trivial
          · cases h
      · split at h
        · rename_i hc
          injection h with h; subst h
          obtain ⟨ht, hc⟩ := hc
          exact row_or (hlt i) (by omega) (hval i (by omega)) (r := tVal V (i + c)) (by
            rw [tVal_hi hi, ht, Nat.add_zero, nat_or _ _ (by omega), tVal_hi (by omega)]; omega) (hval _ (by omega)) trivial
        · cases h
      · split at h
        · rename_i hc
          injection h with h; subst h
          obtain ⟨ht, rfl⟩ := hc
          exact row_add (hval i (by omega)) (r := tVal V (i + 4)) (by rw [tVal_hi hi, tVal_hi (by omega)]; omega) (hval _ (by omega)) trivial
        · cases h
      · cases h
  · rename_i i j
    unfold tEq at h
    split at h
    · split at h
      · rename_i hc
        injection h with h; subst h
        exact row_eqb (hval i (by omega)) (hval j (by omega)) (Or.inl ⟨rfl, by rw [hc.2]; simp⟩)
      · split at h
        · rename_i hc
          injection h with h; subst h
          refine row_eqb (hval i (by omega)) (hval j (by omega)) (Or.inl ⟨rfl, decide_eq_false ?_⟩)
          rw [tVal_hi hc.1, tVal_hi (by omega)]; omega
        · cases h
    · split at h
      · rename_i hc
        injection h with h; subst h
        exact row_eqb (hval i (by omega)) (hval j (by omega)) (Or.inr ⟨rfl, by rw [hc.2]; simp⟩)
      · split at h
        · rename_i hc
          injection h with h; subst h
          refine row_eqb (hval i (by omega)) (hval j (by omega)) (Or.inr ⟨rfl, decide_eq_false ?_⟩)
          rw [tVal_hi hc.1, tVal_hi (by omega)]; omega
        · cases h
    · cases h
  · cases h
theorem turns_0 : Ev.isTrue (@Ev.runF tSym Try.prog (Ev.orcOf [wRow 1 40 0, tRow 10] [] []) 40000 (.fn 4 [tu 0, tk 1] Ev.st0)) = true := by kernel_rfl
theorem turns_1 : Ev.isTrue (@Ev.runF tSym Try.prog (Ev.orcOf [wRow 1 40 1, tRow 10] [] []) 40000 (.fn 4 [tu 0, tk 1] Ev.st0)) = true := by kernel_rfl
theorem turns_2 : Ev.isTrue (@Ev.runF tSym Try.prog (Ev.orcOf [wRow 1 40 2, tRow 10] [] []) 40000 (.fn 4 [tu 0, tk 1] Ev.st0)) = true := by kernel_rfl
theorem turns_3 : Ev.isTrue (@Ev.runF tSym Try.prog (Ev.orcOf [wRow 1 40 3, tRow 10] [] []) 40000 (.fn 4 [tu 0, tk 1] Ev.st0)) = true := by kernel_rfl
theorem turns_4 : Ev.isTrue (@Ev.runF tSym Try.prog (Ev.orcOf [wRow 1 40 4, tRow 10] [] []) 40000 (.fn 4 [tu 0, tk 1] Ev.st0)) = true := by kernel_rfl
theorem turns_5 : Ev.isTrue (@Ev.runF tSym Try.prog (Ev.orcOf [wRow 1 40 5, tRow 10] [] []) 40000 (.fn 4 [tu 0, tk 1] Ev.st0)) = true := by kernel_rfl
theorem turns_6 : Ev.isTrue (@Ev.runF tSym Try.prog (Ev.orcOf [wRow 1 40 6, tRow 10] [] []) 40000 (.fn 4 [tu 0, tk 1] Ev.st0)) = true := by kernel_rfl
theorem turns_7 : Ev.isTrue (@Ev.runF tSym Try.prog (Ev.orcOf [wRow 1 40 7, tRow 10] [] []) 40000 (.fn 4 [tu 0, tk 1] Ev.st0)) = true := by kernel_rfl
theorem turns_8 : Ev.isTrue (@Ev.runF tSym Try.prog (Ev.orcOf [wRow 1 40 8, tRow 10] [] []) 40000 (.fn 4 [tu 0, tk 1] Ev.st0)) = true := by kernel_rfl
theorem turns_9 : Ev.isTrue (@Ev.runF tSym Try.prog (Ev.orcOf [wRow 1 40 9, tRow 10] [] []) 40000 (.fn 4 [tu 0, tk 1] Ev.st0)) = true := by kernel_rfl
theorem turns_10 : Ev.isTrue (@Ev.runF tSym Try.prog (Ev.orcOf [wRow 1 40 10, tRow 10] [] []) 40000 (.fn 4 [tu 0, tk 1] Ev.st0)) = true := by kernel_rfl
theorem turns_11 : Ev.isTrue (@Ev.runF tSym Try.prog (Ev.orcOf [wRow 1 40 11, tRow 10] [] []) 40000 (.fn 4 [tu 0, tk 1] Ev.st0)) = true := by kernel_rfl
theorem turns_12 : Ev.isTrue (@Ev.runF tSym Try.prog (Ev.orcOf [wRow 1 40 12, tRow 10] [] []) 40000 (.fn 4 [tu 0, tk 1] Ev.st0)) = true := by kernel_rfl
theorem turns_13 : Ev.isTrue (@Ev.runF tSym Try.prog (Ev.orcOf [wRow 1 40 13, tRow 10] [] []) 40000 (.fn 4 [tu 0, tk 1] Ev.st0)) = true := by kernel_rfl
theorem turns_14 : Ev.isTrue (@Ev.runF tSym Try.prog (Ev.orcOf [wRow 1 40 14, tRow 10] [] []) 40000 (.fn 4 [tu 0, tk 1] Ev.st0)) = true := by kernel_rfl
theorem turns_15 : Ev.isTrue (@Ev.runF tSym Try.prog (Ev.orcOf [wRow 1 40 15, tRow 10] [] []) 40000 (.fn 4 [tu 0, tk 1] Ev.st0)) = true := by kernel_rfl
theorem turns_16 : Ev.isTrue (@Ev.runF tSym Try.prog (Ev.orcOf [wRow 1 40 16, tRow 10] [] []) 40000 (.fn 4 [tu 0, tk 1] Ev.st0)) = true := by kernel_rfl
theorem turns_17 : Ev.isTrue (@Ev.runF tSym Try.prog (Ev.orcOf [wRow 1 40 17, tRow 10] [] []) 40000 (.fn 4 [tu 0, tk 1] Ev.st0)) = true := by kernel_rfl
theorem turns_18 : Ev.isTrue (@Ev.runF tSym Try.prog (Ev.orcOf [wRow 1 40 18, tRow 10] [] []) 40000 (.fn 4 [tu 0, tk 1] Ev.st0)) = true := by kernel_rfl
theorem turns_19 : Ev.isTrue (@Ev.runF tSym Try.prog (Ev.orcOf [wRow 1 40 19, tRow 10] [] []) 40000 (.fn 4 [tu 0, tk 1] Ev.st0)) = true := by kernel_rfl
theorem turns_20 : Ev.isTrue (@Ev.runF tSym Try.prog (Ev.orcOf [wRow 1 40 20, tRow 10] [] []) 40000 (.fn 4 [tu 0, tk 1] Ev.st0)) = true := by kernel_rfl
theorem turns_21 : Ev.isTrue (@Ev.runF tSym Try.prog (Ev.orcOf [wRow 1 40 21, tRow 10] [] []) 40000 (.fn 4 [tu 0, tk 1] Ev.st0)) = true := by kernel_rfl
theorem turns_22 : Ev.isTrue (@Ev.runF tSym Try.prog (Ev.orcOf [wRow 1 40 22, tRow 10] [] []) 40000 (.fn 4 [tu 0, tk 1] Ev.st0)) = true := by kernel_rfl
theorem turns_23 : Ev.isTrue (@Ev.runF tSym Try.prog (Ev.orcOf [wRow 1 40 23, tRow 10] [] []) 40000 (.fn 4 [tu 0, tk 1] Ev.st0)) = true := by kernel_rfl
theorem turns_24 : Ev.isTrue (@Ev.runF tSym Try.prog (Ev.orcOf [wRow 1 40 24, tRow 10] [] []) 40000 (.fn 4 [tu 0, tk 1] Ev.st0)) = true := by kernel_rfl
theorem turns_25 : Ev.isTrue (@Ev.runF tSym Try.prog (Ev.orcOf [wRow 1 40 25, tRow 10] [] []) 40000 (.fn 4 [tu 0, tk 1] Ev.st0)) = true := by kernel_rfl
theorem turns_26 : Ev.isTrue (@Ev.runF tSym Try.prog (Ev.orcOf [wRow 1 40 26, tRow 10] [] []) 40000 (.fn 4 [tu 0, tk 1] Ev.st0)) = true := by kernel_rfl
theorem turns_27 : Ev.isTrue (@Ev.runF tSym Try.prog (Ev.orcOf [wRow 1 40 27, tRow 10] [] []) 40000 (.fn 4 [tu 0, tk 1] Ev.st0)) = true := by kernel_rfl
theorem turns_28 : Ev.isTrue (@Ev.runF tSym Try.prog (Ev.orcOf [wRow 1 40 28, tRow 10] [] []) 40000 (.fn 4 [tu 0, tk 1] Ev.st0)) = true := by kernel_rfl
theorem turns_29 : Ev.isTrue (@Ev.runF tSym Try.prog (Ev.orcOf [wRow 1 40 29, tRow 10] [] []) 40000 (.fn 4 [tu 0, tk 1] Ev.st0)) = true := by kernel_rfl
theorem turns_30 : Ev.isTrue (@Ev.runF tSym Try.prog (Ev.orcOf [wRow 1 40 30, tRow 10] [] []) 40000 (.fn 4 [tu 0, tk 1] Ev.st0)) = true := by kernel_rfl
theorem turns_31 : Ev.isTrue (@Ev.runF tSym Try.prog (Ev.orcOf [wRow 1 40 31, tRow 10] [] []) 40000 (.fn 4 [tu 0, tk 1] Ev.st0)) = true := by kernel_rfl
theorem turns_32 : Ev.isTrue (@Ev.runF tSym Try.prog (Ev.orcOf [wRow 1 40 32, tRow 10] [] []) 40000 (.fn 4 [tu 0, tk 1] Ev.st0)) = true := by kernel_rfl
theorem turns_33 : Ev.isTrue (@Ev.runF tSym Try.prog (Ev.orcOf [wRow 1 40 33, tRow 10] [] []) 40000 (.fn 4 [tu 0, tk 1] Ev.st0)) = true := by kernel_rfl
theorem turns_34 : Ev.isTrue (@Ev.runF tSym Try.prog (Ev.orcOf [wRow 1 40 34, tRow 10] [] []) 40000 (.fn 4 [tu 0, tk 1] Ev.st0)) = true := by kernel_rfl
theorem turns_35 : Ev.isTrue (@Ev.runF tSym Try.prog (Ev.orcOf [wRow 1 40 35, tRow 10] [] []) 40000 (.fn 4 [tu 0, tk 1] Ev.st0)) = true := by kernel_rfl
theorem turns_36 : Ev.isTrue (@Ev.runF tSym Try.prog (Ev.orcOf [wRow 1 40 36, tRow 10] [] []) 40000 (.fn 4 [tu 0, tk 1] Ev.st0)) = true := by kernel_rfl
theorem turns_37 : Ev.isTrue (@Ev.runF tSym Try.prog (Ev.orcOf [wRow 1 40 37, tRow 10] [] []) 40000 (.fn 4 [tu 0, tk 1] Ev.st0)) = true := by kernel_rfl
theorem turns_38 : Ev.isTrue (@Ev.runF tSym Try.prog (Ev.orcOf [wRow 1 40 38, tRow 10] [] []) 40000 (.fn 4 [tu 0, tk 1] Ev.st0)) = true := by kernel_rfl
theorem turns_39 : Ev.isTrue (@Ev.runF tSym Try.prog (Ev.orcOf [wRow 1 40 39, tRow 10] [] []) 40000 (.fn 4 [tu 0, tk 1] Ev.st0)) = true := by kernel_rfl
theorem turns_40 : Ev.isTrue (@Ev.runF tSym Try.prog (Ev.orcOf [wRow 1 40 40, tRow 10] [] []) 40000 (.fn 4 [tu 0, tk 1] Ev.st0)) = true := by kernel_rfl
theorem turns_all : ∀ k, k < 41 → Ev.isTrue (@Ev.runF tSym Try.prog (Ev.orcOf [wRow 1 40 k, tRow 10] [] []) 40000 (.fn 4 [tu 0, tk 1] Ev.st0)) = true
  | 0, _ => turns_0
  | 1, _ => turns_1
  | 2, _ => turns_2
  | 3, _ => turns_3
  | 4, _ => turns_4
  | 5, _ => turns_5
  | 6, _ => turns_6
  | 7, _ => turns_7
  | 8, _ => turns_8
  | 9, _ => turns_9
  | 10, _ => turns_10
  | 11, _ => turns_11
  | 12, _ => turns_12
  | 13, _ => turns_13
  | 14, _ => turns_14
  | 15, _ => turns_15
  | 16, _ => turns_16
  | 17, _ => turns_17
  | 18, _ => turns_18
  | 19, _ => turns_19
  | 20, _ => turns_20
  | 21, _ => turns_21
  | 22, _ => turns_22
  | 23, _ => turns_23
  | 24, _ => turns_24
  | 25, _ => turns_25
  | 26, _ => turns_26
  | 27, _ => turns_27
  | 28, _ => turns_28
  | 29, _ => turns_29
  | 30, _ => turns_30
  | 31, _ => turns_31
  | 32, _ => turns_32
  | 33, _ => turns_33
  | 34, _ => turns_34
  | 35, _ => turns_35
  | 36, _ => turns_36
  | 37, _ => turns_37
  | 38, _ => turns_38
  | 39, _ => turns_39
  | 40, _ => turns_40
  | k + 41, h => absurd h (by omega)
theorem turns_any (v n : Int) (hv : (Lit.int .u64 v).wf = true) (w : World) : Calls Try.prog 4 #[.int .u64 v, .int .i64 n] w fun e w' => e = .returned (.bool true) ∧ Below w.heap.size w w' := by
  have hv : 0 ≤ v ∧ v < 18446744073709551616 := by
    have h : IntKind.u64.min ≤ v ∧ v ≤ IntKind.u64.max := by simpa [Lit.wf] using hv
    have e1 : IntKind.u64.min = 0 := by decide
    have e2 : IntKind.u64.max = 18446744073709551615 := by decide
    omega
  obtain ⟨hv0, hv⟩ := hv
  obtain ⟨v, rfl⟩ := Int.eq_ofNat_of_zero_le hv0
  have hv : v < 18446744073709551616 := by omega
  obtain ⟨k, hk, hlt⟩ := withinV_nat n 41 (by omega)
  letI : Ev.Tok := ⟨tTok v n, fun _ => ByteArray.empty⟩
  letI : Ev.Sym := tSym
  have hrows : ∀ r ∈ [wRow 1 40 k, tRow 10], r.ok Try.prog := by
    intro r hr
    simp only [List.mem_cons, List.not_mem_nil, or_false] at hr
    rcases hr with rfl | rfl
    · exact wRow_ok (by omega) hk
    · exact tRow_ok wordRuns_any
  exact @Ev.calls_true_args _ tSym Try.prog _ (@Ev.SymOk.mk _ tSym Try.prog (tBin_ok v n hv) (fun _ _ _ h => by cases h) (fun _ _ _ _ h => by cases h) (fun _ _ _ h => by cases h)) (Ev.orcOf_ok hrows (by simp) (by simp)) mixed 40000 4 [tu 0, tk 1] (by simp [tu, tk, Ev.Wf]) (Ev.fast (turns_all k hlt)) w
end Go.Proofs.Ythhfjcejcamfbaa
