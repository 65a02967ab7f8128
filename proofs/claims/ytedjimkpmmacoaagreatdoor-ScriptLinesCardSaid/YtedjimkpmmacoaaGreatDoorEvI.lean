/-
  A verified evaluator of the model's code, part I (own work): no condition; the theorem 'sound' of its last part is what a claim uses.
-/
import Derived.Test.YtedjimkpmmacoaaGreatDoorEvZ
import Derived.LoopN
namespace Go.Ev
set_option linter.all false
set_option linter.unusedVariables false
set_option linter.unusedSimpArgs false
set_option linter.unusedSectionVars false
set_option linter.unnecessarySimpa false
open Go Go.RowKit
variable [Tok] [Sym]
section
variable {P : Program} {B : Nat → Prop} {γ : Gh} {s : St} {w : World}

noncomputable def evResults (P : Program) (s : St) (t : Tm) : List ResultVar → Option (List Value)
  | [] => some []
  | .tmp i :: l => (evResults P s t l).map (Tr.get undef t i :: ·)
  | .cell a ty :: l => match evLoad P s ty (Tr.get undef t a) with
    | some v => (evResults P s t l).map (v :: ·)
    | none => none
def oneOr : List Value → Value
  | [v] => v
  | l => .tuple l.toArray

noncomputable def evReg (P : Program) (self : Req → Res) (ops : Array Oper) (draw : Bool) (N : Nat) (t : Tm) (s : St) : Option (Tm × St) :=
  if okOps ops = true then
    match draw with
    | true => evDraw P self ops N t s
    | false => evOps P self ops N ops.toList t s
  else none

noncomputable def stepCode (P : Program) (self : Req → Res) (c : Code) (N : Nat) (t : Tm) (s : St) : Res :=
  match c with
  | .skip => .fin .normal t s
  | .ret => .fin .ret t s
  | .exit i => .fin (.exit i) t s
  | .label _ => .fin .normal t s
  | .seq a b => match self (.code a N t s) with
    | .fin .normal t s => self (.code b N t s)
    | .fin e t s => .fin e t s
    | _ => .err
  | .cond x a b => if okOpd x = true then
      match ov t x with
      | .bool true => self (.code a N t s)
      | .bool false => self (.code b N t s)
      | _ => .err
    else .err
  | .block i b => match self (.code b N t s) with
    | .fin (.exit j) t s => if j = i then .fin .normal t s else .fin (.exit j) t s
    | .fin e t s => .fin e t s
    | _ => .err
  | .loop b => match self (.code b N t s) with
    | .fin .normal t s => self (.code (.loop b) N t s)
    | .fin e t s => .fin e t s
    | _ => .err
  | .region _ ops draw => match evReg P self ops draw N t s with
    | some (t, s) => .fin .normal t s
    | none => .err
  | _ => .err

noncomputable def stepFn (P : Program) (self : Req → Res) (g : FuncId) (args : List Value) (s : St) : Res :=
  match P.funcs[g]? with
  | some fn => match fn.body with
    | some b => if args.length ≤ fn.ntmps then
        match self (.code b fn.ntmps (put args 0 .leaf) s) with
        | .fin (.exit _) _ _ => .err
        | .fin _ t s' => match evResults P s' t fn.results.toList with
          | some l => .val (oneOr l) s'
          | none => .err
        | _ => .err
      else .err
    | none => .err
  | none => .err

/-- Calls whose result is known and that leave all as it was. -/
abbrev Orc := FuncId → List Value → St → Option (Value × St)
noncomputable def step (P : Program) (orc : Orc) (self : Req → Res) : Req → Res
  | .code c N t s => stepCode P self c N t s
  | .fn g args s => match orc g args s with
    | some (v, s') => .val v s'
    | none => stepFn P self g args s
noncomputable def run (P : Program) (orc : Orc) (n : Nat) : Req → Res :=
  Nat.rec (motive := fun _ => Req → Res) (fun _ => .err) (fun _ ih => step P orc ih) n
theorem run_succ {orc : Orc} (n : Nat) : run P orc (n + 1) = step P orc (run P orc n) := rfl
def OrcOk (P : Program) (orc : Orc) : Prop := ∀ g args s v s', orc g args s = some (v, s') → ∀ B γ w, R B γ s w → (∀ v ∈ args, Wf s.n v) → Calls P g (args.map (ren γ)).toArray w (RetOk B γ s w v s')
def noOrc : Orc := fun _ _ _ => none
theorem noOrc_ok : OrcOk P noOrc := fun _ _ _ _ _ h => by cases h

def CodeSound (P : Program) (self : Req → Res) : Prop :=
  ∀ c N t s x t' s', self (.code c N t s) = .fin x t' s' → ∀ B γ w a, R B γ s w → TR γ s.n N t a → c.wp P (Post B γ s w N x.to t' s') a w
def LoopSound (P : Program) (self : Req → Res) (k : Nat) : Prop :=
  ∀ b N t s x t' s', self (.code (.loop b) N t s) = .fin x t' s' → ∀ B γ w a, R B γ s w → TR γ s.n N t a → Code.rounds P b (Post B γ s w N x.to t' s') k a w

theorem rounds_mono {b : Code} {Q Q' : Exit → Act → World → Prop} (h : ∀ e a w, Q e a w → Q' e a w) : ∀ (k : Nat) (a : Act) (w : World), Code.rounds P b Q k a w → Code.rounds P b Q' k a w
  | 0, _, _, hk => hk
  | k + 1, a, w, hk => by
    rw [rounds_succ] at hk ⊢
    refine wp_mono hk fun e a w he => ?_
    cases e <;> simp only [Exit.then] at he ⊢ <;> first | exact h _ _ _ he | exact rounds_mono h k _ _ he

def resF (tmps : Array Value) : ResultVar → Sem Value
  | .tmp t => pure (tmps.getD t undef)
  | .cell x t => do loadVar t (← asAddr (tmps.getD x undef))
theorem evResults_run (hR : R B γ s w) {N : Nat} {t : Tm} {a : Act} (hT : TR γ s.n N t a) : ∀ (l : List ResultVar) (vs : List Value), evResults P s t l = some vs →
    (l.mapM (resF a.tmps)).run P w = .ok (vs.map (ren γ)) w ∧ (∀ v ∈ vs, Wf s.n v)
  | [], vs, he => by
    simp only [evResults, Option.some.injEq] at he
    subst he
    exact ⟨rfl, by simp⟩
  | .tmp i :: l, vs, he => by
    simp only [evResults] at he
    cases hl : evResults P s t l with
    | none => simp [hl] at he
    | some vs' =>
      simp [hl] at he
      subst he
      obtain ⟨h1, h2⟩ := evResults_run hR hT l vs' hl
      refine ⟨?_, ?_⟩
      · rw [List.mapM_cons]
        simp only [resF, Sem.run_bind, Sem.run_pure, Result.andThen_ok, h1]
        rw [hT.val i]
        rfl
      · intro v hv
        rcases List.mem_cons.1 hv with rfl | hv
        · exact hT.wf i
        · exact h2 v hv
  | .cell x ty :: l, vs, he => by
    simp only [evResults] at he
    split at he
    · rename_i v hv
      cases hl : evResults P s t l with
      | none => simp [hl] at he
      | some vs' =>
        simp [hl] at he
        subst he
        obtain ⟨h1, h2⟩ := evResults_run hR hT l vs' hl
        obtain ⟨h3, h4⟩ := evLoad_run (P := P) hR hv
        have hload : (resF a.tmps (.cell x ty)).run P w = .ok (ren γ v) w := by
          simp only [resF]
          rw [hT.val x]
          cases hx : Tr.get undef t x with
          | pointer p =>
            cases p with
            | none => rw [hx] at hv; simp [evLoad] at hv
            | some p =>
              rw [hx] at h3
              simpa [Instr.loadAt, ren, Instr.sureAddr, asAddr] using h3
          | _ => rw [hx] at hv; simp [evLoad] at hv
        refine ⟨?_, ?_⟩
        · rw [List.mapM_cons]
          rw [Sem.run_bind, hload]
          simp only [Result.andThen_ok, Sem.run_bind, h1, Sem.run_pure]
          rfl
        · intro u hu
          rcases List.mem_cons.1 hu with rfl | hu
          · exact h4
          · exact h2 u hu
    · cases he

theorem results_run (hR : R B γ s w) {N : Nat} {t : Tm} {a : Act} (hT : TR γ s.n N t a) {fn : Func} {vs : List Value} (he : evResults P s t fn.results.toList = some vs) :
    (results fn a.tmps).run P w = .ok (ren γ (oneOr vs)) w ∧ Wf s.n (oneOr vs) := by
  obtain ⟨h1, h2⟩ := evResults_run hR hT _ _ he
  have hres : results fn a.tmps = (do let vs ← fn.results.mapM (resF a.tmps); pure (if h : vs.size = 1 then vs[0] else .tuple vs)) := rfl
  rw [hres, Array.mapM_eq_mapM_toList]
  refine ⟨?_, ?_⟩
  · simp only [bind_map_left, Sem.run_bind, h1, Result.andThen_ok, Sem.run_pure]
    congr 1
    match vs with
    | [] => simp [oneOr, ren_tuple]
    | [v] => simp [oneOr]
    | v :: u :: l => simp [oneOr, ren_tuple]
  · match vs, h2 with
    | [], _ => trivial
    | [v], h2 => exact h2 v (by simp)
    | v :: u :: l, h2 => exact (Wf_tuple _ _).2 (by intro x hx; exact h2 x (by simpa using hx))

theorem TR.init {args : List Value} {N : Nat} (ha : ∀ v ∈ args, Wf s.n v) (hN : args.length ≤ N) :
    TR γ s.n N (Go.Ev.put args 0 .leaf) { tmps := (args.map (ren γ)).toArray ++ Array.replicate (N - (args.map (ren γ)).toArray.size) undef, defers := [] } := by
  refine ⟨by simp; omega, fun i => ?_, fun i => ?_, rfl⟩
  · rw [put_get]
    by_cases hi : i < args.length
    · rw [if_pos (by omega), Nat.sub_zero]
      have : i < (args.map (ren γ)).toArray.size := by simpa using hi
      simp only [Array.getD_eq_getD_getElem?]
      rw [Array.getElem?_append_left this]
      simp [hi]
    · rw [if_neg (by omega)]
      simp only [Array.getD_eq_getD_getElem?]
      rw [Array.getElem?_append_right (by simpa using hi)]
      simp only [Array.getElem?_replicate]
      split <;> rfl
  · rw [put_get]
    split
    · rename_i hi
      have hi' : i - 0 < args.length := by omega
      exact ha _ (by rw [List.getD, List.getElem?_eq_getElem hi']; exact List.getElem_mem _)
    · exact wf_undef _

theorem stepFn_sound {self : Req → Res} (hC : CodeSound P self) {g : FuncId} {args : List Value} {v : Value} {s' : St} (he : stepFn P self g args s = .val v s')
    (hR : R B γ s w) (ha : ∀ v ∈ args, Wf s.n v) : Calls P g (args.map (ren γ)).toArray w (RetOk B γ s w v s') := by
  unfold stepFn at he
  split at he
  case h_2 => cases he
  rename_i fn hf
  split at he
  case h_2 => cases he
  rename_i b hb
  split at he
  case isFalse => cases he
  rename_i hN
  have core : ∀ (e : EX) (t : Tm) (s₁ : St), self (.code b fn.ntmps (Go.Ev.put args 0 .leaf) s) = .fin e t s₁ → (∀ i, e ≠ .exit i) → (match evResults P s₁ t fn.results.toList with
      | some l => Res.val (oneOr l) s₁
      | none => .err) = .val v s' → Calls P g (args.map (ren γ)).toArray w (RetOk B γ s w v s') := by
    intro e t s₁ hc hne hr
    split at hr
    · rename_i l hl
      injection hr with h1 h2
      subst h1 h2
      refine calls_of_wp hf hb ?_
      refine wp_mono (hC b fn.ntmps _ s e t s₁ hc B γ w _ hR (TR.init ha hN)) ?_
      rintro e' a' w' ⟨rfl, γ', hT, hx, hR', hbl, hn⟩
      obtain ⟨hrun, hwf⟩ := results_run (P := P) hR' hT hl
      have hp : a'.defers = [] ∧ ∃ v, (results fn a'.tmps).run P w' = .ok v w' ∧ RetOk B γ s w (oneOr l) s₁ (.returned v) w' := ⟨hT.defers, _, hrun, γ', rfl, hx, hR', hwf, hbl, hn⟩
      cases e with
      | normal => exact hp
      | exit i => exact (hne i rfl).elim
      | ret => exact hp
    · cases hr
  split at he
  · cases he
  · rename_i e t s₁ hne hc
    exact core e t s₁ hc (fun i hi => hne i hi) he
  · cases he

theorem sound {orc : Orc} (hs : SymOk P) (ho : OrcOk P orc) (hm : P.follows .mixedOrders = true) : ∀ n, FnSound P (run P orc n) ∧ CodeSound P (run P orc n) ∧ LoopSound P (run P orc n) n
  | 0 => ⟨⟨hs, fun g args s v s' h => (by cases h)⟩, fun c N t s x t' s' h => (by cases h), fun b N t s x t' s' h => (by cases h)⟩
  | n + 1 => by
    obtain ⟨ihF, ihC, ihL⟩ := sound hs ho hm n
    have loop : LoopSound P (run P orc (n + 1)) (n + 1) := by
      intro b N t s x t' s' he B γ w a hR hT
      rw [run_succ] at he
      simp only [step, stepCode] at he
      rw [rounds_succ]
      split at he
      · rename_i t₁ s₁ h1
        refine wp_mono (ihC b N t s .normal t₁ s₁ h1 B γ w a hR hT) ?_
        rintro e a' w' ⟨rfl, γ', hT', hx, hR', hb, hn⟩
        exact rounds_mono (fun e a w h => h.trans hx hb hn) n a' w' (ihL b N t₁ s₁ x t' s' he B γ' w' a' hR' hT')
      · rename_i e t₁ s₁ hne h1
        injection he with he1 he2 he3
        subst he1 he2 he3
        refine wp_mono (ihC b N t s e t₁ s₁ h1 B γ w a hR hT) ?_
        intro e' a' w' hp
        have he' := hp.1
        subst he'
        cases e with
        | normal => exact (hne rfl).elim
        | exit i => exact hp
        | ret => exact hp
      · cases he
    refine ⟨⟨hs, ?_⟩, ?_, loop⟩
    · intro g args s v s' he B γ w hR ha
      rw [run_succ] at he
      simp only [step] at he
      split at he
      · rename_i v' s'' hq
        injection he with h1 h2
        subst h1 h2
        exact ho g args s v' s'' hq B γ w hR ha
      · exact stepFn_sound ihC he hR ha
    · intro c N t s x t' s' he B γ w a hR hT
      cases c with
      | loop b => exact wp_loop_rounds (n + 1) (loop b N t s x t' s' he B γ w a hR hT)
      | skip =>
        rw [run_succ] at he; simp only [step, stepCode] at he
        injection he with h1 h2 h3; subst h1 h2 h3
        exact wp_skip ⟨rfl, γ, hT, Ext.refl _ _, hR, Fr.refl _ _, Nat.le_refl _⟩
      | ret =>
        rw [run_succ] at he; simp only [step, stepCode] at he
        injection he with h1 h2 h3; subst h1 h2 h3
        exact wp_ret ⟨rfl, γ, hT, Ext.refl _ _, hR, Fr.refl _ _, Nat.le_refl _⟩
      | exit i =>
        rw [run_succ] at he; simp only [step, stepCode] at he
        injection he with h1 h2 h3; subst h1 h2 h3
        exact wp_exit ⟨rfl, γ, hT, Ext.refl _ _, hR, Fr.refl _ _, Nat.le_refl _⟩
      | label l =>
        rw [run_succ] at he; simp only [step, stepCode] at he
        injection he with h1 h2 h3; subst h1 h2 h3
        exact wp_label ⟨rfl, γ, hT, Ext.refl _ _, hR, Fr.refl _ _, Nat.le_refl _⟩
      | seq x₁ x₂ =>
        rw [run_succ] at he; simp only [step, stepCode] at he
        refine wp_seq ?_
        split at he
        · rename_i t₁ s₁ h1
          refine wp_mono (ihC x₁ N t s .normal t₁ s₁ h1 B γ w a hR hT) ?_
          rintro e a' w' ⟨rfl, γ', hT', hx, hR', hb, hn⟩
          exact wp_mono (ihC x₂ N t₁ s₁ x t' s' he B γ' w' a' hR' hT') (fun e a w h => h.trans hx hb hn)
        · rename_i e t₁ s₁ hne h1
          injection he with he1 he2 he3
          subst he1 he2 he3
          refine wp_mono (ihC x₁ N t s e t₁ s₁ h1 B γ w a hR hT) ?_
          intro e' a' w' hp
          have he' := hp.1
          subst he'
          cases e with
          | normal => exact (hne rfl).elim
          | exit i => exact hp
          | ret => exact hp
        · cases he
      | cond y c₁ c₂ =>
        rw [run_succ] at he; simp only [step, stepCode] at he
        split at he
        case isFalse => cases he
        rename_i hok
        have hev := (hT.eval hok).1
        split at he
        · rename_i hb
          exact wp_cond_true (by rw [hev, hb]; rfl) (ihC c₁ N t s x t' s' he B γ w a hR hT)
        · rename_i hb
          exact wp_cond_false (by rw [hev, hb]; rfl) (ihC c₂ N t s x t' s' he B γ w a hR hT)
        · cases he
      | block i b =>
        rw [run_succ] at he; simp only [step, stepCode] at he
        refine wp_block ?_
        split at he
        · rename_i j t₁ s₁ h1
          refine wp_mono (ihC b N t s (.exit j) t₁ s₁ h1 B γ w a hR hT) ?_
          rintro e a' w' ⟨rfl, hp⟩
          show (if j = i then _ else _)
          split at he
          · rename_i hji
            injection he with he1 he2 he3
            subst he1 he2 he3
            rw [if_pos hji]
            exact ⟨rfl, hp⟩
          · rename_i hji
            injection he with he1 he2 he3
            subst he1 he2 he3
            rw [if_neg hji]
            exact ⟨rfl, hp⟩
        · rename_i e t₁ s₁ hne h1
          injection he with he1 he2 he3
          subst he1 he2 he3
          refine wp_mono (ihC b N t s e t₁ s₁ h1 B γ w a hR hT) ?_
          intro e' a' w' hp
          have he' := hp.1
          subst he'
          cases e with
          | normal => exact hp
          | exit i => exact (hne _ rfl).elim
          | ret => exact hp
        · cases he
      | region id ops draw =>
        rw [run_succ] at he; simp only [step, stepCode] at he
        split at he
        case h_2 => cases he
        rename_i t₁ s₁ hreg
        injection he with he1 he2 he3
        subst he1 he2 he3
        unfold evReg at hreg
        split at hreg
        case isFalse => cases hreg
        rename_i hok
        have hall : ∀ o ∈ ops.toList, o.op.operands.toList.all okOpd = true := List.all_eq_true.1 hok
        cases draw with
        | false => exact wp_region_list (evOps_sound ihF ops.toList t s _ _ hall hreg γ w a hR hT (fun e a w h => h))
        | true => exact draw_sound hm ihF hall hreg hR hT
      | _ => rw [run_succ] at he; simp only [step, stepCode] at he; cases he

/-- A call that the evaluator brings to its end: what it hands back, in whatever world. -/
theorem calls_of_run {orc : Orc} (hs : SymOk P) (ho : OrcOk P orc) (hm : P.follows .mixedOrders = true) {n g : Nat} {args : List Value} {v : Value} {s' : St} (ha : ∀ v ∈ args, Wf 0 v) (h : run P orc n (.fn g args st0) = .val v s') (hv : flat1 v = true)
    (γ : Gh) (w : World) : Calls P g (args.map (ren γ)).toArray w fun e w' => e = .returned v ∧ Below w.heap.size w w' := by
  have := (sound hs ho hm n).1.2 g args st0 v s' h (fun k => k < w.heap.size) γ w (R.zero _ w) ha
  refine this.mono ?_
  rintro e w' ⟨γ', rfl, _, _, _, hb, _⟩
  exact ⟨by rw [flat1_ren γ' hv], hb.below⟩

noncomputable def isTrue : Res → Bool
  | .val (.bool b) _ => b
  | _ => false
theorem isTrue_spec {r : Res} (h : isTrue r = true) : ∃ s', r = .val (.bool true) s' := by
  unfold isTrue at h
  split at h
  · rename_i b s'; exact ⟨s', by rw [h]⟩
  · cases h
def γ0 : Gh := ⟨fun _ => 0, fun _ => 0, fun _ => 0⟩
theorem calls_true_args {orc : Orc} (hs : SymOk P) (ho : OrcOk P orc) (hm : P.follows .mixedOrders = true) {n g : Nat} {args : List Value} (ha : ∀ v ∈ args, Wf 0 v) (h : isTrue (run P orc n (.fn g args st0)) = true) (w : World) :
    Calls P g (args.map (ren γ0)).toArray w fun e w' => e = .returned (.bool true) ∧ Below w.heap.size w w' := by
  obtain ⟨s', h⟩ := isTrue_spec h
  exact calls_of_run hs ho hm ha h rfl γ0 w

theorem R.of_below (hR : R B γ s w) {w' : World} (hb : Below w.heap.size w w') : R B γ s w' := by
  have hB := hR.bnd
  refine ⟨hR.lt, fun i hi => ?_, hR.wf, hR.cl, hR.inj, hR.low, fun k hk => Nat.lt_of_lt_of_le (hB k hk) hb.size, hR.m.keep (fun i hi => hb.block _ (hR.mblk_lt hi)) rfl (Nat.le_refl _) (Ext.refl _ _)⟩
  rw [hb.block _ (hR.blk_lt hi)]
  exact hR.obj i hi
/-- A call whose result hangs on nothing, as an oracle's row. -/
theorem orc_row {g : FuncId} {args : List Value} {v : Value} (hv : Wf 0 v) (h : ∀ (γ : Gh) (w : World), Calls P g (args.map (ren γ)).toArray w fun e w' => e = .returned (ren γ v) ∧ Below w.heap.size w w') :
    ∀ B γ s w, R B γ s w → (∀ v ∈ args, Wf s.n v) → Calls P g (args.map (ren γ)).toArray w (RetOk B γ s w v s) := by
  intro B γ s w hR ha
  refine (h γ w).mono ?_
  rintro e w' ⟨rfl, hb⟩
  exact ⟨γ, rfl, Ext.refl _ _, hR.of_below hb, hv.mono (Nat.zero_le _), Fr.of_below hb hR.bnd, Nat.le_refl _⟩
end
/-- A closed call. -/
theorem calls_true {P : Program} (hm : P.follows .mixedOrders = true) {n g : Nat} (h : isTrue (@run noSym P noOrc n (.fn g [] st0)) = true) (w : World) :
    Calls P g #[] w fun e w' => e = .returned (.bool true) ∧ Below w.heap.size w w' := by
  letI : Tok := ⟨fun _ => 0, fun _ => ByteArray.empty⟩
  exact @calls_true_args _ noSym P noOrc (noSym_ok P) noOrc_ok hm n g [] (by simp) h w
end Go.Ev
