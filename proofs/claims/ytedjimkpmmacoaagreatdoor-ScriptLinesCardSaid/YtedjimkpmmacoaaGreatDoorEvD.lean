/-
  A verified evaluator of the model's code, part D (own work): no condition; the theorem 'sound' of its last part is what a claim uses.
-/
import Derived.Test.YtedjimkpmmacoaaGreatDoorEvC
import Derived.Laws.StructEq
namespace Go.Ev
set_option linter.all false
set_option linter.unusedVariables false
set_option linter.unusedSimpArgs false
set_option linter.unusedSectionVars false
set_option linter.unnecessarySimpa false
open Go Go.RowKit
variable [Tok]
section
variable {P : Program} {B : Nat → Prop} {γ : Gh} {s : St} {w : World}

noncomputable def guardOk (P : Program) (t : TypeId) (cst : Bool) (x y : Value) : Bool :=
  match x, y with
  | .nilIface, .nilIface => cst
  | .agg _, .agg _ => !P.eqGuardType P.depth t
  | _, _ => true

noncomputable def evBin (P : Program) (op : BinOp) (t : TypeId) (cst : Bool) (x y : Value) : Option Value :=
  match x, y with
  | .int k a, .int k' b => if isShift op = true then evShift op k a b else if k = k' then evInt op k a b else none
  | .string a, .string b => evStr op a.data.toList b.data.toList
  | .float _ _, _ => none
  | .complex _ _ _, _ => none
  | _, .float _ _ => none
  | _, .complex _ _ _ => none
  | x, y => match op with
    | .eql => if guardOk P t cst x y = true then (evEqF P 8 t x y).map Value.bool else none
    | .neq => if guardOk P t cst x y = true then (evEqF P 8 t x y).map fun b => .bool !b else none
    | _ => none

theorem ba_toList (b : ByteArray) : b.toList = b.data.toList := ByteArray.toList_eq b

theorem evInt_run {op : BinOp} {k : IntKind} {a b : Int} {t : TypeId} {v : Value} (hs : isShift op = false) (he : evInt op k a b = some v) :
    (binOp op t (.int k a) (.int k b)).run P w = .ok v w ∧ flat1 v = true := by
  cases op <;> simp only [evInt, isShift, Option.some.injEq, reduceCtorEq] at he hs <;> first
    | (subst he; exact ⟨by simp [binOp, Op.intArith, Op.intBits, Op.intCmp], rfl⟩)
    | (split at he
       · cases he
       · rename_i hb
         injection he with he
         subst he
         exact ⟨by simp [binOp, Op.intDiv, hb], rfl⟩)
theorem evShift_run {op : BinOp} {k k' : IntKind} {a b : Int} {t : TypeId} {v : Value} (he : evShift op k a b = some v) :
    (binOp op t (.int k a) (.int k' b)).run P w = .ok v w ∧ flat1 v = true := by
  unfold evShift at he
  split at he
  · cases he
  · rename_i hb
    split at he
    · injection he with he; subst he; exact ⟨by simp [binOp, Op.shift, hb], rfl⟩
    · injection he with he; subst he; exact ⟨by simp [binOp, Op.shift, hb], rfl⟩
    · cases he
theorem evStr_run {op : BinOp} {a b : ByteArray} {t : TypeId} {v : Value} (he : evStr op a.data.toList b.data.toList = some v) :
    (binOp op t (.string a) (.string b)).run P w = .ok v w ∧ flat1 v = true := by
  cases op <;> simp only [evStr, Option.some.injEq, reduceCtorEq] at he <;> first
    | (subst he; exact ⟨by simp only [binOp, Op.stringOp, ba_toList, Sem.run_pure], rfl⟩)
    | (split at he
       · rename_i hl
         injection he with he
         subst he
         refine ⟨?_, rfl⟩
         have hla : a.data.toList.length = a.size := (Array.length_toList : a.data.toList.length = a.data.size)
         have hlb : b.data.toList.length = b.size := (Array.length_toList : b.data.toList.length = b.data.size)
         rw [hla, hlb] at hl
         have hn : ¬ (((a.size + b.size : Nat) : Int) > IntKind.i64.max) := by
           have : IntKind.i64.max = 9223372036854775807 := by decide
           rw [this]; omega
         simp only [binOp, Op.stringOp, if_neg hn, Sem.run_pure]
         congr 2
       · cases he)

theorem ren_nilIface {x : Value} (h : ren γ x = .nilIface) : x = .nilIface := by
  cases x with
  | nilIface => rfl
  | pointer a => cases a <;> simp [ren] at h
  | slice a l c => cases a <;> simp [ren] at h
  | map a => cases a <;> simp [ren] at h
  | agg c => rw [ren_agg] at h; cases h
  | tuple c => rw [ren_tuple] at h; cases h
  | func f a b => rw [ren_func] at h; cases h
  | _ => simp [ren] at h
theorem ren_isAgg {x : Value} {c : Array Value} (h : ren γ x = .agg c) : ∃ c', x = .agg c' := by
  cases x with
  | agg c => exact ⟨c, rfl⟩
  | pointer a => cases a <;> simp [ren] at h
  | slice a l c => cases a <;> simp [ren] at h
  | map a => cases a <;> simp [ren] at h
  | tuple c => rw [ren_tuple] at h; cases h
  | func f a b => rw [ren_func] at h; cases h
  | _ => simp [ren] at h
def isConst : Operand → Bool
  | .const _ => true
  | _ => false

theorem guardOk_run {op : BinOp} {t : TypeId} {a b : Operand} {x y : Value} (hc : guardOk P t (isConst a || isConst b) x y = true) :
    (eqGuard op t a b (ren γ x) (ren γ y)).run P w = .ok () w := by
  unfold eqGuard
  split
  case h_3 => rfl
  all_goals
    rw [if_neg (by decide)]
    split
    · rename_i hx hy
      rw [ren_nilIface hx, ren_nilIface hy] at hc
      simp only [guardOk] at hc
      cases a <;> cases b <;> simp [isConst] at hc ⊢
    · rename_i c1 c2 hx hy
      obtain ⟨c1', rfl⟩ := ren_isAgg hx
      obtain ⟨c2', rfl⟩ := ren_isAgg hy
      simp only [guardOk] at hc
      have hc' : P.eqGuardType P.depth t = false := by simpa using hc
      simp [hc']
    · rfl
theorem ren_int {x : Value} {k : IntKind} {n : Int} (hc : ∀ k a b, x = .complex k a b → False) (h : ren γ x = .int k n) : x = .int k n := by
  cases x with
  | int k n => simpa [ren] using h
  | pointer a => cases a <;> simp [ren] at h
  | slice a l c => cases a <;> simp [ren] at h
  | map a => cases a <;> simp [ren] at h
  | agg c => rw [ren_agg] at h; cases h
  | tuple c => rw [ren_tuple] at h; cases h
  | func f a b => rw [ren_func] at h; cases h
  | complex k a b => exact (hc _ _ _ rfl).elim
  | _ => simp [ren] at h
theorem ren_string {x : Value} {b : ByteArray} (hc : ∀ k a, x = .float k a → False) (h : ren γ x = .string b) : x = .string b := by
  cases x with
  | string b => simpa [ren] using h
  | pointer a => cases a <;> simp [ren] at h
  | slice a l c => cases a <;> simp [ren] at h
  | map a => cases a <;> simp [ren] at h
  | agg c => rw [ren_agg] at h; cases h
  | tuple c => rw [ren_tuple] at h; cases h
  | func f a b => rw [ren_func] at h; cases h
  | float k b => exact (hc _ _ rfl).elim
  | _ => simp [ren] at h
theorem ren_float {x : Value} {k : FloatKind} {b : Nat} (h : ren γ x = .float k b) : False := by
  cases x with
  | pointer a => cases a <;> simp [ren] at h
  | slice a l c => cases a <;> simp [ren] at h
  | map a => cases a <;> simp [ren] at h
  | agg c => rw [ren_agg] at h; cases h
  | tuple c => rw [ren_tuple] at h; cases h
  | func f a b => rw [ren_func] at h; cases h
  | _ => simp [ren] at h
theorem ren_complex {x : Value} {k : FloatKind} {a b : Nat} (h : ren γ x = .complex k a b) : False := by
  cases x with
  | pointer a => cases a <;> simp [ren] at h
  | slice a l c => cases a <;> simp [ren] at h
  | map a => cases a <;> simp [ren] at h
  | agg c => rw [ren_agg] at h; cases h
  | tuple c => rw [ren_tuple] at h; cases h
  | func f a b => rw [ren_func] at h; cases h
  | _ => simp [ren] at h

theorem binOp_eql {t : TypeId} {X Y : Value} (h1 : ∀ k a k' b, X = .int k a → Y = .int k' b → False) (h2 : ∀ a b, X = .string a → Y = .string b → False)
    (h3 : ∀ k b, X = .float k b → False) (h4 : ∀ k a b, X = .complex k a b → False) : binOp .eql t X Y = (do pure (.bool (← Op.equal t X Y))) := by
  unfold binOp
  split <;> first | rfl | (exact (h1 _ _ _ _ rfl rfl).elim) | (exact (h2 _ _ rfl rfl).elim) | (exact (h3 _ _ rfl).elim) | (exact (h4 _ _ _ rfl).elim) | simp_all
theorem binOp_neq {t : TypeId} {X Y : Value} (h1 : ∀ k a k' b, X = .int k a → Y = .int k' b → False) (h2 : ∀ a b, X = .string a → Y = .string b → False)
    (h3 : ∀ k b, X = .float k b → False) (h4 : ∀ k a b, X = .complex k a b → False) : binOp .neq t X Y = (do pure (.bool (!(← Op.equal t X Y)))) := by
  unfold binOp
  split <;> first | rfl | (exact (h1 _ _ _ _ rfl rfl).elim) | (exact (h2 _ _ rfl rfl).elim) | (exact (h3 _ _ rfl).elim) | (exact (h4 _ _ _ rfl).elim) | simp_all

theorem evBin_run {op : BinOp} {t : TypeId} {a b : Operand} {x y v : Value} (hx : Wf s.n x) (hy : Wf s.n y) (he : evBin P op t (isConst a || isConst b) x y = some v) :
    (do eqGuard op t a b (ren γ x) (ren γ y); binOp op t (ren γ x) (ren γ y)).run P w = .ok (ren γ v) w ∧ Wf s.n v := by
  unfold evBin at he
  split at he
  · rename_i k p k' q
    have hg : (eqGuard op t a b (ren γ (.int k p)) (ren γ (.int k' q))).run P w = .ok () w := guardOk_run (x := .int k p) (y := .int k' q) rfl
    rw [Sem.run_bind, hg, Result.andThen_ok]
    split at he
    · obtain ⟨h1, h2⟩ := evShift_run (P := P) (w := w) (k' := k') (t := t) he
      rw [flat1_ren γ h2]; exact ⟨h1, flat1_wf _ h2⟩
    · rename_i hs
      split at he
      · rename_i hk
        subst hk
        obtain ⟨h1, h2⟩ := evInt_run (P := P) (w := w) (t := t) (by simpa using hs) he
        rw [flat1_ren γ h2]; exact ⟨h1, flat1_wf _ h2⟩
      · cases he
  · rename_i p q
    have hg : (eqGuard op t a b (ren γ (.string p)) (ren γ (.string q))).run P w = .ok () w := guardOk_run (x := .string p) (y := .string q) rfl
    rw [Sem.run_bind, hg, Result.andThen_ok]
    obtain ⟨h1, h2⟩ := evStr_run (P := P) (w := w) (t := t) he
    rw [flat1_ren γ h2]; exact ⟨h1, flat1_wf _ h2⟩
  · cases he
  · cases he
  · cases he
  · cases he
  · rename_i _ _ h3 h4 h5 h6 h1 h2
    have k1 : ∀ k a k' b, ren γ x = .int k a → ren γ y = .int k' b → False := fun k a k' b p q => h1 k a k' b (ren_int h4 p) (ren_int h6 q)
    have k2 : ∀ a b, ren γ x = .string a → ren γ y = .string b → False := fun a b p q => h2 a b (ren_string h3 p) (ren_string h5 q)
    have k3 : ∀ k b, ren γ x = .float k b → False := fun k b p => ren_float p
    have k4 : ∀ k a b, ren γ x = .complex k a b → False := fun k a b p => ren_complex p
    split at he
    · split at he
      · rename_i hg
        rw [Sem.run_bind, guardOk_run hg, Result.andThen_ok, binOp_eql k1 k2 k3 k4]
        cases hq : evEqF P 8 t x y with
        | none => simp [hq] at he
        | some r =>
          simp [hq] at he
          subst he
          have := evEqF_run (P := P) (γ := γ) (w := w) s.n 8 Op.maxDepth t x y r (by decide) hx hy hq
          refine ⟨?_, trivial⟩
          simp [Op.equal, this, ren]
      · cases he
    · split at he
      · rename_i hg
        rw [Sem.run_bind, guardOk_run hg, Result.andThen_ok, binOp_neq k1 k2 k3 k4]
        cases hq : evEqF P 8 t x y with
        | none => simp [hq] at he
        | some r =>
          simp [hq] at he
          subst he
          have := evEqF_run (P := P) (γ := γ) (w := w) s.n 8 Op.maxDepth t x y r (by decide) hx hy hq
          refine ⟨?_, trivial⟩
          simp [Op.equal, this, ren]
      · cases he
    · cases he
end
end Go.Ev
