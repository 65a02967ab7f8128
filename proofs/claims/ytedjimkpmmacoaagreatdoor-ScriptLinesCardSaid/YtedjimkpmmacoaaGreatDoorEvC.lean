/-
  A verified evaluator of the model's code, part C (own work): no condition; the theorem 'sound' of its last part is what a claim uses.
-/
import Derived.Test.YtedjimkpmmacoaaGreatDoorEvB
namespace Go.Ev
set_option linter.all false
set_option linter.unusedVariables false
set_option linter.unusedSimpArgs false
set_option linter.unusedSectionVars false
set_option linter.unnecessarySimpa false
open Go Go.RowKit
variable [Tok]
section
variable {P : Program} {B : Nat → Prop} {γ : Gh} {s : St} {w : World}

noncomputable def evEqFs (P : Program) (eq : TypeId → Value → Value → Option Bool) (xs ys : Array Value) : List Field → Option Bool
  | [] => some true
  | f :: fs =>
    if f.name = "_" then evEqFs P eq xs ys fs
    else match evPart P f.type xs f.offset, evPart P f.type ys f.offset with
      | some a, some b => match eq f.type a b with
        | some true => evEqFs P eq xs ys fs
        | some false => some false
        | none => none
      | _, _ => none
noncomputable def evEqF (P : Program) : Nat → TypeId → Value → Value → Option Bool
  | 0, _, _, _ => none
  | d + 1, t, x, y =>
    match P.underlying t, x, y with
    | some (.struct fields), .agg xs, .agg ys => if P.stoodInHeld t = true then none else evEqFs P (evEqF P d) xs ys fields.toList
    | _, _, _ => evEq1 P t x y

theorem run_eqFs {d : Nat} {eq : TypeId → Value → Value → Option Bool} {xs ys : Array Value} (n : Nat) (hx : ∀ x ∈ xs, Wf n x) (hy : ∀ x ∈ ys, Wf n x)
    (heq : ∀ t x y b, Wf n x → Wf n y → eq t x y = some b → (Op.equalIn d t (ren γ x) (ren γ y)).run P w = .ok b w)
    (body : Field → Option Bool × Unit → Sem (ForInStep (Option Bool × Unit)))
    (h1 : ∀ f st, f.name = "_" → (body f st).run P w = .ok (.yield (none, ())) w)
    (h2 : ∀ f st a b r, f.name ≠ "_" → (part f.type (xs.map (ren γ)) f.offset).run P w = .ok a w → (part f.type (ys.map (ren γ)) f.offset).run P w = .ok b w → (Op.equalIn d f.type a b).run P w = .ok r w →
      (body f st).run P w = .ok (if r = true then .yield (none, ()) else .done (some false, ())) w) :
    ∀ (fs : List Field) (r : Bool), evEqFs P eq xs ys fs = some r → (forIn fs (none, ()) body).run P w = .ok (if r = true then (none, ()) else (some false, ())) w
  | [], r, he => by
    simp only [evEqFs, Option.some.injEq] at he
    subst he
    simp
  | f :: fs, r, he => by
    simp only [evEqFs] at he
    rw [List.forIn_cons, Sem.run_bind]
    split at he
    · rename_i hn
      rw [h1 f _ hn, Result.andThen_ok]
      exact run_eqFs n hx hy heq body h1 h2 fs r he
    · rename_i hn
      split at he
      · rename_i a b ha hb
        obtain ⟨ra, wa⟩ := evPart_run (s := ⟨n, .leaf, .leaf⟩) (P := P) (γ := γ) (w := w) hx ha
        obtain ⟨rb, wb⟩ := evPart_run (s := ⟨n, .leaf, .leaf⟩) (P := P) (γ := γ) (w := w) hy hb
        split at he
        · rename_i hq
          rw [h2 f _ _ _ true hn ra rb (heq _ _ _ _ wa wb hq), Result.andThen_ok]
          exact run_eqFs n hx hy heq body h1 h2 fs r he
        · rename_i hq
          injection he with he; subst he
          rw [h2 f _ _ _ false hn ra rb (heq _ _ _ _ wa wb hq), Result.andThen_ok]
          rfl
        · cases he
      · cases he

theorem evEqF_run (n : Nat) : ∀ (f d : Nat) (t : TypeId) (x y : Value) (b : Bool), f ≤ d → Wf n x → Wf n y → evEqF P f t x y = some b →
    (Op.equalIn d t (ren γ x) (ren γ y)).run P w = .ok b w
  | 0, _, _, _, _, _, _, _, _, he => by cases he
  | f + 1, d, t, x, y, b, hd, hx, hy, he => by
    obtain ⟨d, rfl⟩ : ∃ e, d = e + 1 := ⟨d - 1, by omega⟩
    simp only [evEqF] at he
    split at he
    · rename_i fields xs ys hu
      split at he
      · cases he
      · rename_i hst
        have key := fun body h1 h2 => run_eqFs (P := P) (w := w) (γ := γ) (d := d) n ((Wf_agg _ _).1 hx) ((Wf_agg _ _).1 hy)
          (fun t x y b wx wy hq => evEqF_run n f d t x y b (by omega) wx wy hq) body h1 h2 fields.toList b he
        rw [ren_agg, ren_agg]
        simp only [Op.equalIn, Sem.run_bind, run_underlying hu, Result.andThen_ok, run_program]
        rw [if_neg hst]
        simp only [Sem.run_bind]
        rw [← Array.forIn_toList]
        rw [key]
        · cases b <;> simp
        · intro f st hn
          simp [hn]
        · intro f st a b r hn ha hb hr
          cases r <;> simp [hn, ha, hb, hr]
    · exact evEq1_run d he
end
end Go.Ev
