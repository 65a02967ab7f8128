/-
  A verified evaluator of the model's code, part H (own work): no condition; the theorem 'sound' of its last part is what a claim uses.
-/
import Derived.Test.YtedjimkpmmacoaaGreatDoorEvG
namespace Go.Ev
set_option linter.all false
set_option linter.unusedVariables false
set_option linter.unusedSimpArgs false
set_option linter.unusedSectionVars false
set_option linter.unnecessarySimpa false
open Go Go.RowKit
variable [Tok] [Sym]
section
variable {P : Program} {B : Nat → Prop} {γ : Gh} {s : St} {w : World}

abbrev Tm := Tr Value
noncomputable def ov (t : Tm) : Operand → Value
  | .tmp i => Tr.get undef t i
  | .const v => v
  | .func f => .func (.func f) #[] #[]
  | .global _ => undef
def okOpd : Operand → Bool
  | .tmp _ => true
  | .const v => flat v
  | .func _ => true
  | .global _ => false

structure TR (γ : Gh) (n N : Nat) (t : Tm) (a : Act) : Prop where
  size : a.tmps.size = N
  val : ∀ i, a.tmps.getD i undef = ren γ (Tr.get undef t i)
  wf : ∀ i, Wf n (Tr.get undef t i)
  defers : a.defers = []

theorem ren_undef (γ : Gh) : ren γ undef = undef := rfl
theorem wf_undef (n : Nat) : Wf n undef := trivial

theorem TR.eval {n N : Nat} {t : Tm} {a : Act} (h : TR γ n N t a) {x : Operand} (hx : okOpd x = true) : a.eval x = ren γ (ov t x) ∧ Wf n (ov t x) := by
  cases x with
  | tmp i => exact ⟨h.val i, h.wf i⟩
  | const v => exact ⟨(flat_ren γ hx).symm, flat_wf n hx⟩
  | func f => exact ⟨rfl, ⟨trivial, trivial⟩⟩
  | global g => cases hx

noncomputable def putT (N : Nat) (dst : Option Tmp) (v : Value) (t : Tm) : Option Tm :=
  match dst with
  | none => some t
  | some d => if d < N then some (Tr.set undef v d t) else none

theorem TR.put {n n' N : Nat} {t t' : Tm} {a : Act} {γ' : Gh} (h : TR γ n N t a) (hx : Ext n γ γ') (hn : n ≤ n') {dst : Option Tmp} {v : Value} (hv : Wf n' v) (hp : putT N dst v t = some t') :
    TR γ' n' N t' (a.put dst (ren γ' v)) := by
  unfold putT at hp
  cases dst with
  | none =>
    injection hp with hp; subst hp
    exact ⟨h.size, fun i => by rw [ren_ext hx _ (h.wf i)]; exact h.val i, fun i => Wf.mono hn _ (h.wf i), h.defers⟩
  | some d =>
    simp only at hp
    split at hp
    · rename_i hd
      injection hp with hp; subst hp
      refine ⟨by simpa [Act.put] using h.size, fun i => ?_, fun i => ?_, h.defers⟩
      · rw [Tr.get_set]
        have hs := h.size
        by_cases hi : i = d
        · subst hi
          rw [if_pos rfl]
          simp [Act.put, hs, hd]
        · rw [if_neg hi, ren_ext hx _ (h.wf i), ← h.val i]
          simp [Act.put, Array.getElem?_setIfInBounds_ne (Ne.symm hi)]
      · rw [Tr.get_set]
        split
        · exact hv
        · exact Wf.mono hn _ (h.wf i)
    · cases hp

noncomputable def gv (t : Tm) (ops : Array Oper) (o : Oper) : Bool :=
  match o.guard with
  | none => true
  | some (j, want) =>
    match (ops[j]?).bind (·.dst) with
    | some d => match Tr.get undef t d with
      | .bool b => b == want
      | _ => false
    | none => false
theorem ren_bool {x : Value} {b : Bool} (h : ren γ x = .bool b) : x = .bool b := by
  cases x with
  | bool b => simpa [ren] using h
  | pointer a => cases a <;> simp [ren] at h
  | slice a l c => cases a <;> simp [ren] at h
  | map a => cases a <;> simp [ren] at h
  | agg c => rw [ren_agg] at h; cases h
  | tuple c => rw [ren_tuple] at h; cases h
  | func f a b => rw [ren_func] at h; cases h
  | _ => simp [ren] at h
theorem wanted_eq {t : Tm} {a : Act} {ops : Array Oper} {o : Oper} (h : ∀ d ∈ o.looksAt ops, a.tmps.getD d undef = ren γ (Tr.get undef t d)) : Region.wanted o (yielded ops a.tmps) = gv t ops o := by
  unfold Region.wanted gv
  cases hg : o.guard with
  | none => rfl
  | some g =>
    obtain ⟨j, want⟩ := g
    simp only [yielded]
    cases hd : (ops[j]?).bind (·.dst) with
    | none => simp
    | some d =>
      simp only [Option.bind_some]
      have hv := h d (by simp [Oper.looksAt, hg, hd])
      cases hq : a.tmps[d]? with
      | none =>
        have : Tr.get undef t d = undef := by
          have h1 : a.tmps.getD d undef = undef := by simp [hq]
          rw [h1] at hv
          have h2 : ren γ (Tr.get undef t d) = .tuple #[] := hv.symm
          cases hx : Tr.get undef t d with
          | tuple c =>
            rw [hx, ren_tuple] at h2
            injection h2 with h2
            have : c = #[] := by
              apply Array.eq_empty_of_size_eq_zero
              have := congrArg Array.size h2
              simpa using this
            rw [this]; rfl
          | pointer a => rw [hx] at h2; cases a <;> simp [ren] at h2
          | slice a l c => rw [hx] at h2; cases a <;> simp [ren] at h2
          | map a => rw [hx] at h2; cases a <;> simp [ren] at h2
          | agg c => rw [hx, ren_agg] at h2; cases h2
          | func f a b => rw [hx, ren_func] at h2; cases h2
          | _ => rw [hx] at h2; simp [ren] at h2
        rw [this]; rfl
      | some v =>
        have h1 : v = ren γ (Tr.get undef t d) := by simpa [hq] using hv
        cases hx : Tr.get undef t d with
        | bool b => rw [hx] at h1; simp [h1, ren]
        | pointer a => rw [hx] at h1; cases a <;> simp [h1, ren]
        | slice a l c => rw [hx] at h1; cases a <;> simp [h1, ren]
        | map a => rw [hx] at h1; cases a <;> simp [h1, ren]
        | agg c => rw [hx, ren_agg] at h1; simp [h1]
        | tuple c => rw [hx, ren_tuple] at h1; simp [h1]
        | func f a b => rw [hx, ren_func] at h1; simp [h1]
        | _ => rw [hx] at h1; simp [h1, ren]

theorem TR.wanted {n N : Nat} {t : Tm} {a : Act} (h : TR γ n N t a) (ops : Array Oper) (o : Oper) : Region.wanted o (yielded ops a.tmps) = gv t ops o :=
  wanted_eq fun d _ => h.val d

inductive EX where
  | normal
  | exit (i : Nat)
  | ret
def EX.to : EX → Exit
  | .normal => .normal
  | .exit i => .exit i
  | .ret => .ret

inductive Req where
  | code (c : Code) (N : Nat) (t : Tm) (s : St)
  | fn (g : FuncId) (args : List Value) (s : St)
inductive Res where
  | fin (e : EX) (t : Tm) (s : St)
  | val (v : Value) (s : St)
  | err

noncomputable def step1 (P : Program) (self : Req → Res) (ops : Array Oper) (N : Nat) (o : Oper) (t : Tm) (s : St) : Option (Tm × St) :=
  if gv t ops o = true then
    match evOp P o.op (ov t) s with
    | .val v s' => (putT N o.dst v t).map fun t' => (t', s')
    | .skip s' => (putT N o.dst undef t).map fun t' => (t', s')
    | .call f args => match self (.fn f args s) with
      | .val v s' => (putT N o.dst v t).map fun t' => (t', s')
      | _ => none
    | .err => none
  else (putT N o.dst undef t).map fun t' => (t', s)
noncomputable def evOps (P : Program) (self : Req → Res) (ops : Array Oper) (N : Nat) : List Oper → Tm → St → Option (Tm × St)
  | [], t, s => some (t, s)
  | o :: os, t, s => match step1 P self ops N o t s with
    | some (t', s') => evOps P self ops N os t' s'
    | none => none

def okOps (ops : Array Oper) : Bool := ops.toList.all fun o => o.op.operands.toList.all okOpd

/-- What holds behind a piece of code. -/
def Post (B : Nat → Prop) (γ : Gh) (s : St) (w : World) (N : Nat) (x : Exit) (t' : Tm) (s' : St) (e : Exit) (a' : Act) (w' : World) : Prop :=
  e = x ∧ ∃ γ', TR γ' s'.n N t' a' ∧ Ext s.n γ γ' ∧ R B γ' s' w' ∧ Fr B w w' ∧ s.n ≤ s'.n
theorem Post.trans {γ₁ : Gh} {s₁ s' : St} {w₁ w' : World} {N : Nat} {x e : Exit} {t' : Tm} {a' : Act} (hx : Ext s.n γ γ₁) (hb : Fr B w w₁) (hn : s.n ≤ s₁.n)
    (h : Post B γ₁ s₁ w₁ N x t' s' e a' w') : Post B γ s w N x t' s' e a' w' := by
  obtain ⟨he, γ', h1, h2, h3, h4, h5⟩ := h
  exact ⟨he, γ', h1, hx.trans h2 hn, h3, hb.trans h4, Nat.le_trans hn h5⟩

def RetOk (B : Nat → Prop) (γ : Gh) (s : St) (w : World) (v : Value) (s' : St) (e : Ending) (w' : World) : Prop :=
  ∃ γ', e = .returned (ren γ' v) ∧ Ext s.n γ γ' ∧ R B γ' s' w' ∧ Wf s'.n v ∧ Fr B w w' ∧ s.n ≤ s'.n
def FnSound (P : Program) (self : Req → Res) : Prop :=
  SymOk P ∧ ∀ g args s v s', self (.fn g args s) = .val v s' → ∀ B γ w, R B γ s w → (∀ v ∈ args, Wf s.n v) → Calls P g (args.map (ren γ)).toArray w (RetOk B γ s w v s')

/-- One operation: what the machine does at it, in whatever world is so related. -/
theorem op_step {self : Req → Res} (hself : FnSound P self) {a : Act} (hR : R B γ s w) {o : Oper}
    {ρ : Operand → Value} (hev : ∀ x ∈ o.op.operands, a.eval x = ren γ (ρ x) ∧ Wf s.n (ρ x)) {K : Act → World → Prop} {Q : Exit → Act → World → Prop} :
    match evOp P o.op ρ s with
    | .val v s' => (∀ γ' w', Ext s.n γ γ' → R B γ' s' w' → Wf s'.n v → Fr B w w' → s.n ≤ s'.n → K (a.put o.dst (ren γ' v)) w') → o.wp P a w K Q
    | .skip s' => (∀ w', R B γ s' w' → Fr B w w' → s'.n = s.n → K (a.put o.dst undef) w') → o.wp P a w K Q
    | .call f args => ∀ v s', self (.fn f args s) = .val v s' → (∀ γ' w', Ext s.n γ γ' → R B γ' s' w' → Wf s'.n v → Fr B w w' → s.n ≤ s'.n → K (a.put o.dst (ren γ' v)) w') → o.wp P a w K Q
    | .err => True := by
  have hsim := evOp_sim (P := P) hself.1 hR (o := o) (ρ := ρ) (ρ' := a.eval) (fun x hx => (hev x hx).1) (fun x hx => (hev x hx).2)
  cases hop : evOp P o.op ρ s with
  | val v s' =>
    rw [hop] at hsim
    obtain ⟨γ', w', hr, hx, hR', hv, hb, hn⟩ := hsim
    intro hk
    unfold Oper.wp
    rw [hr]
    exact hk γ' w' hx hR' hv hb hn
  | skip s' =>
    rw [hop] at hsim
    obtain ⟨w', hr, hR', hb, hn⟩ := hsim
    intro hk
    unfold Oper.wp
    rw [hr]
    exact hk w' hR' hb hn
  | call f args =>
    rw [hop] at hsim
    obtain ⟨hr, hwa⟩ := hsim
    intro v s' hs hk
    unfold Oper.wp
    rw [hr]
    show Calls P f _ w _
    refine (hself.2 f args s v s' hs B γ w hR hwa).mono ?_
    rintro e w' ⟨γ', rfl, hx, hR', hv, hb, hn⟩
    exact hk γ' w' hx hR' hv hb hn
  | err => trivial

/-- One step of a list of operations. -/
theorem step1_sound {self : Req → Res} (hself : FnSound P self) {ops : Array Oper} {N : Nat} {o : Oper} {t t₁ : Tm} {s₁ : St} {a : Act} {Q : Exit → Act → World → Prop} {K : Act → World → Prop}
    (hR : R B γ s w) (hT : TR γ s.n N t a) (hok : o.op.operands.toList.all okOpd = true) (he : step1 P self ops N o t s = some (t₁, s₁))
    (hk : ∀ γ' w' a', Ext s.n γ γ' → R B γ' s₁ w' → TR γ' s₁.n N t₁ a' → Fr B w w' → s.n ≤ s₁.n → K a' w') :
    if Region.wanted o (yielded ops a.tmps) then o.wp P a w K Q ∨ (o.asks P a w ∧ LetsOut Q) else K (a.put o.dst undef) w := by
  unfold step1 at he
  rw [hT.wanted ops o]
  split at he
  · rename_i hg
    rw [if_pos hg]
    left
    have hall : ∀ x ∈ o.op.operands, okOpd x = true := fun x hx => List.all_eq_true.1 hok x (by simpa using hx)
    have hstep := op_step (P := P) hself hR (o := o) (ρ := ov t) (fun x hx => hT.eval (hall x hx)) (K := K) (Q := Q)
    have next : ∀ v s₂ , (putT N o.dst v t).map (fun t' => (t', s₂)) = some (t₁, s₁) → ∀ γ' w', Ext s.n γ γ' → R B γ' s₂ w' → Wf s₂.n v → Fr B w w' → s.n ≤ s₂.n → K (a.put o.dst (ren γ' v)) w' := by
      intro v s₂ hp γ' w' hx hR' hv hb hn
      cases hq : putT N o.dst v t with
      | none => simp [hq] at hp
      | some t₂ =>
        simp [hq] at hp
        obtain ⟨rfl, rfl⟩ := hp
        exact hk γ' w' _ hx hR' (hT.put hx hn hv hq) hb hn
    cases hop : evOp P o.op (ov t) s with
    | val v s₂ =>
      rw [hop] at he hstep
      exact hstep (next v s₂ he)
    | skip s₂ =>
      rw [hop] at he hstep
      exact hstep (fun w' hR' hb hn => next undef s₂ he γ w' (Ext.refl _ _) hR' (wf_undef _) hb (Nat.le_of_eq hn.symm))
    | call f args =>
      rw [hop] at he hstep
      simp only at he
      split at he
      · rename_i v s₂ hs
        exact hstep v s₂ hs (next v s₂ he)
      · cases he
    | err => rw [hop] at he; cases he
  · rename_i hg
    rw [if_neg hg]
    cases hq : putT N o.dst undef t with
    | none => simp [hq] at he
    | some t₂ =>
      simp [hq] at he
      obtain ⟨rfl, rfl⟩ := he
      exact hk γ w _ (Ext.refl _ _) hR (hT.put (Ext.refl _ _) (Nat.le_refl _) (wf_undef _) hq) (Fr.refl _ _) (Nat.le_refl _)

theorem evOps_sound {self : Req → Res} (hself : FnSound P self) {ops : Array Oper} {N : Nat} {Q : Exit → Act → World → Prop} :
    ∀ (l : List Oper) (t : Tm) (s : St) (t' : Tm) (s' : St), (∀ o ∈ l, o.op.operands.toList.all okOpd = true) → evOps P self ops N l t s = some (t', s') →
    ∀ (γ : Gh) (w : World) (a : Act), R B γ s w → TR γ s.n N t a → (∀ e a' w', Post B γ s w N .normal t' s' e a' w' → Q e a' w') → wpList P ops Q l a w
  | [], t, s, t', s', _, he, γ, w, a, hR, hT, hQ => by
    simp only [evOps, Option.some.injEq, Prod.mk.injEq] at he
    obtain ⟨rfl, rfl⟩ := he
    exact hQ _ _ _ ⟨rfl, γ, hT, Ext.refl _ _, hR, Fr.refl _ _, Nat.le_refl _⟩
  | o :: os, t, s, t', s', hok, he, γ, w, a, hR, hT, hQ => by
    simp only [evOps] at he
    split at he
    · rename_i t₁ s₁ h1
      exact step1_sound hself hR hT (hok o (by simp)) h1 (fun γ' w' a' hx hR' hT' hb hn =>
        evOps_sound hself os t₁ s₁ t' s' (fun o ho => hok o (by simp [ho])) he γ' w' a' hR' hT' (fun e a'' w'' h => hQ e a'' w'' (h.trans hx hb hn)))
    · cases he
end
end Go.Ev
