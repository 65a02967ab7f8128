/-
  A verified evaluator of the model's code, part V (own work): no condition; the theorem 'sound' of its last part is what a claim uses.
-/
import Derived.Test.YtedjimkpmmacoaaGreatDoorEvH
namespace Go.Ev
set_option linter.all false
set_option linter.unusedVariables false
set_option linter.unusedSimpArgs false
set_option linter.unusedSectionVars false
set_option linter.unnecessarySimpa false
open Go Go.RowKit
variable [Tok] [Sym]
section
variable {P : Program} {B : Nat → Prop} {γ : Gh} {s : St} {w : World}

inductive Kd where
  | pure
  | read
  | write
noncomputable def kOf (P : Program) : Op → Kd
  | .alloc _ => .write
  | .box _ _ => .write
  | .buildSlice _ _ _ => .write
  | .makeSlice _ _ _ => .write
  | .store _ _ _ => .write
  | .makeMap _ _ => .write
  | .mapUpdate _ _ _ _ => .write
  | .lookup _ _ _ _ => .read
  | .load _ _ => .read
  | .slice _ _ _ _ _ => .read
  | .convert _ dst _ => match P.underlying dst with
    | some (.slice _) => .write
    | _ => .read
  | .call c => match c.callee with
    | .builtin .len => .read
    | .builtin .min => .read
    | .builtin .max => .read
    | .builtin .cap => .read
    | _ => .write
  | _ => .pure

theorem valP_val {s s' : St} {r : Option Value} {v : Value} (h : valP s r = .val v s') : r = some v ∧ s' = s := by
  cases r with
  | none => cases h
  | some u => injection h with h1 h2; exact ⟨by rw [h1], h2.symm⟩
theorem valR_val {s' : St} {r : Option (Value × St)} {v : Value} (h : valR r = .val v s') : r = some (v, s') := by
  cases r with
  | none => cases h
  | some u => obtain ⟨a, b⟩ := u; injection h with h1 h2; rw [h1, h2]

/-- What looks at no memory says the same over each. -/
theorem pure_op {op : Op} {ρ : Operand → Value} (hk : kOf P op = .pure) (s : St) :
    (∃ v, evOp P op ρ s = .val v s ∧ ∀ s₂, evOp P op ρ s₂ = .val v s₂) ∨ evOp P op ρ s = .err := by
  have ofP : ∀ (r : Option Value), (∃ v, valP s r = .val v s ∧ ∀ s₂, valP s₂ r = .val v s₂) ∨ valP s r = .err := by
    intro r
    cases r with
    | none => exact Or.inr rfl
    | some v => exact Or.inl ⟨v, rfl, fun _ => rfl⟩
  cases op <;> simp only [kOf, reduceCtorEq] at hk <;> simp only [evOp] <;> try first
    | exact Or.inr trivial
    | exact Or.inl ⟨_, rfl, fun _ => rfl⟩
    | exact ofP _
  case binOp op t x y ty =>
    by_cases h : (isTk (ρ x) || isTk (ρ y)) = true
    · simp only [h, if_true]; exact ofP _
    · simp only [if_neg h]; exact ofP _
  case unOp op t x =>
    by_cases h : isTk (ρ x) = true
    · simp only [h, if_true]; exact ofP _
    · simp only [if_neg h]; exact ofP _
  case pick c a b =>
    cases ρ c with
    | bool b => cases b <;> exact Or.inl ⟨_, rfl, fun _ => rfl⟩
    | _ => exact Or.inr rfl
  case convert src dst x => split at hk <;> cases hk
  case call c =>
    exfalso
    split at hk <;> cases hk

theorem evSlice_same {s s' : St} {t : TypeId} {x v : Value} {lo hi : Option Value} (h : evSlice P s t x lo hi = some (v, s')) (hn : s'.n = s.n) : s' = s := by
  unfold evSlice at h
  repeat' split at h
  all_goals first
    | (cases h; done)
    | (injection h with h; injection h with h1 h2; exact h2.symm)
    | (injection h with h; injection h with h1 h2; rw [← h2] at hn; exact absurd hn (Nat.succ_ne_self _))
theorem evConv_same {s s' : St} {src dst : TypeId} {x v : Value} (hns : ∀ e, P.underlying dst ≠ some (.slice e)) (h : evConv P s src dst x = some (v, s')) : s' = s := by
  unfold evConv at h
  split at h
  · injection h with h; injection h with h1 h2; exact h2.symm
  · injection h with h; injection h with h1 h2; exact h2.symm
  · exact (hns _ (by assumption)).elim
  · exact (hns _ (by assumption)).elim
  · split at h
    · injection h with h; injection h with h1 h2; exact h2.symm
    · cases h
  · split at h
    · split at h
      · injection h with h; injection h with h1 h2; exact h2.symm
      · generalize (ldL s _ _).bind bytesOf = r at h
        cases r with
        | none => cases h
        | some bs => injection h with h; injection h with h1 h2; exact h2.symm
    · cases h
  · split at h
    · split at h
      · injection h with h; injection h with h1 h2; exact h2.symm
      · cases h
    · cases h
  · split at h
    · split at h
      · injection h with h; injection h with h1 h2; exact h2.symm
      · cases h
    · cases h
  · cases h
theorem read_same {op : Op} {ρ : Operand → Value} {s s' : St} {v : Value} (hk : kOf P op = .read) (he : evOp P op ρ s = .val v s') (hn : s'.n = s.n) : s' = s := by
  cases op <;> simp only [kOf, reduceCtorEq] at hk
  case load t a => simp only [evOp] at he; exact (valP_val he).2
  case lookup t x k ok => simp only [evOp] at he; exact (valP_val he).2
  case slice t x lo hi mx =>
    cases mx with
    | some m =>
      cases hi with
      | none => simp only [evOp] at he; cases he
      | some hi =>
        simp only [evOp] at he
        have := evSlice3_n (valR_val he)
        omega
    | none => simp only [evOp] at he; exact evSlice_same (valR_val he) hn
  case convert src dst x =>
    simp only [evOp] at he
    split at hk
    · cases hk
    · rename_i hns
      split at he
      · exact (valP_val he).2
      · exact evConv_same (fun e h => hns e h) (valR_val he)
  case call c =>
    simp only [evOp] at he
    cases hc : c.callee with
    | value f => rw [hc] at hk; cases hk
    | invoke r m => rw [hc] at hk; cases hk
    | builtin b =>
      rw [hc] at hk he
      simp only at he
      have hb : b = .len ∨ b = .min ∨ b = .max ∨ b = .cap := by
        cases b <;> simp only [reduceCtorEq] at hk <;> simp
      have hv : ∃ r, evBuiltin P s b c.argTypes (c.args.toList.map ρ) = valP s r ∨ evBuiltin P s b c.argTypes (c.args.toList.map ρ) = .err := by
        generalize c.args.toList.map ρ = l
        rcases hb with rfl | rfl | rfl | rfl
        all_goals (unfold evBuiltin)
        · match l with
          | [x] => simp only; cases c.argTypes[0]? with
            | none => exact ⟨none, Or.inl rfl⟩
            | some t =>
              simp only
              first
                | exact ⟨_, Or.inl rfl⟩
                | (cases evLen P t x with
                   | some v => exact ⟨some v, Or.inl rfl⟩
                   | none => cases evLenM P s t x with
                     | some v => exact ⟨some v, Or.inl rfl⟩
                     | none => exact ⟨_, Or.inl rfl⟩)
          | [] => exact ⟨none, Or.inl rfl⟩
          | _ :: _ :: _ => exact ⟨none, Or.inl rfl⟩
        · match l with
          | [x, y] => exact ⟨_, Or.inl rfl⟩
          | [x, y, z] => exact ⟨_, Or.inl rfl⟩
          | [] => exact ⟨none, Or.inl rfl⟩
          | [_] => exact ⟨none, Or.inl rfl⟩
          | _ :: _ :: _ :: _ :: _ => exact ⟨none, Or.inl rfl⟩
        · match l with
          | [x, y] => exact ⟨_, Or.inl rfl⟩
          | [x, y, z] => exact ⟨_, Or.inl rfl⟩
          | [] => exact ⟨none, Or.inl rfl⟩
          | [_] => exact ⟨none, Or.inl rfl⟩
          | _ :: _ :: _ :: _ :: _ => exact ⟨none, Or.inl rfl⟩
        · match l with
          | [x] => simp only; cases c.argTypes[0]? with
            | none => exact ⟨none, Or.inl rfl⟩
            | some t =>
              simp only
              first
                | exact ⟨_, Or.inl rfl⟩
                | (cases evLen P t x with
                   | some v => exact ⟨some v, Or.inl rfl⟩
                   | none => cases evLenM P s t x with
                     | some v => exact ⟨some v, Or.inl rfl⟩
                     | none => exact ⟨_, Or.inl rfl⟩)
          | [] => exact ⟨none, Or.inl rfl⟩
          | _ :: _ :: _ => exact ⟨none, Or.inl rfl⟩
      obtain ⟨r, h | h⟩ := hv
      · rw [h] at he; exact (valP_val he).2
      · rw [h] at he; cases he
end
end Go.Ev
