/-
  A verified evaluator of the model's code, part U (own work): no condition; the theorem 'sound' of its last part is what a claim uses.
-/
import Derived.Test.YtgjfpkmikhddoaaEvT
namespace Go.Ev
set_option linter.all false
set_option linter.unusedVariables false
set_option linter.unusedSimpArgs false
set_option linter.unusedSectionVars false
set_option linter.unnecessarySimpa false
open Go Go.RowKit
variable [Tok] [Sym]
/-! the same evaluator, so laid out that little is copied while the kernel reckons -/
section
abbrev OpK := Program → (Operand → Value) → St → OpR
noncomputable def kMove (x : Operand) (_ : Program) (ρ : Operand → Value) (s : St) : OpR := .val (ρ x) s
def kPick1 (u v : Value) (s : St) : Value → OpR
  | .bool true => .val u s
  | .bool false => .val v s
  | _ => .err
noncomputable def kPick (c a b : Operand) (_ : Program) (ρ : Operand → Value) (s : St) : OpR := kPick1 (ρ a) (ρ b) s (ρ c)
noncomputable def kAlloc (e : TypeId) (P : Program) (_ : Operand → Value) (s : St) : OpR := valR (evAlloc P s e)
noncomputable def kBox (e : TypeId) (x : Operand) (_ : Program) (ρ : Operand → Value) (s : St) : OpR := valR (evBox s e (ρ x))
noncomputable def kBuild (t : TypeId) (ps : Array (Nat × Operand)) (P : Program) (ρ : Operand → Value) (s : St) : OpR := valP s (evBuild P t (ps.toList.map fun p => (p.1, ρ p.2)))
noncomputable def kBuildSlice (t : TypeId) (n : Nat) (ps : Array (Nat × Operand)) (P : Program) (ρ : Operand → Value) (s : St) : OpR := valR (evBuildSlice P s t n (ps.toList.map fun p => (p.1, ρ p.2)))
noncomputable def kLoad (t : TypeId) (a : Operand) (P : Program) (ρ : Operand → Value) (s : St) : OpR := valP s (evLoad P s t (ρ a))
def skipR : Option St → OpR
  | some s' => .skip s'
  | none => .err
noncomputable def kStore (t : TypeId) (a x : Operand) (P : Program) (ρ : Operand → Value) (s : St) : OpR := skipR (evStore P s t (ρ a) (ρ x))
noncomputable def kNil (x : Operand) (_ : Program) (ρ : Operand → Value) (s : St) : OpR := valP s (evNil (ρ x))
noncomputable def kBin [Sym] (op : BinOp) (t : TypeId) (x y : Operand) (_ : TypeId) (P : Program) (ρ : Operand → Value) (s : St) : OpR :=
  cond (isTk (ρ x) || isTk (ρ y)) (valP s (Sym.bin op (ρ x) (ρ y))) (valP s (evBin P op t (isConst x || isConst y) (ρ x) (ρ y)))
noncomputable def kUn [Sym] (op : UnOp) (_ : TypeId) (x : Operand) (_ : Program) (ρ : Operand → Value) (s : St) : OpR := cond (isTk (ρ x)) (valP s (Sym.un op (ρ x))) (valP s (evUn op (ρ x)))
noncomputable def kConv [Sym] (a b : TypeId) (x : Operand) (P : Program) (ρ : Operand → Value) (s : St) : OpR := cond (isTk (ρ x)) (valP s (Sym.conv a b (ρ x))) (valR (evConv P s a b (ρ x)))
noncomputable def kIface (t : TypeId) (x : Operand) (P : Program) (ρ : Operand → Value) (s : St) : OpR := valP s (evIface P t (ρ x))
noncomputable def kFunc (fn : Fn) (f c : Array Operand) (_ : Program) (ρ : Operand → Value) (s : St) : OpR := .val (.func fn (f.map ρ) (c.map ρ)) s
noncomputable def kMakeMap (_ : TypeId) (r : Option Operand) (_ : Program) (_ : Operand → Value) (s : St) : OpR := Option.rec (motive := fun _ => OpR) (valR (evMakeMap s)) (fun _ => .err) r
noncomputable def kMakeSlice (t : TypeId) (l c : Operand) (P : Program) (ρ : Operand → Value) (s : St) : OpR := valR (evMakeSlice P s t (ρ l) (ρ c))
noncomputable def kSlice (t : TypeId) (x : Operand) (lo hi mx : Option Operand) (P : Program) (ρ : Operand → Value) (s : St) : OpR :=
  match mx with
  | none => valR (evSlice P s t (ρ x) (lo.map ρ) (hi.map ρ))
  | some m => match hi with
    | some h => valR (evSlice3 P s t (ρ x) (lo.map ρ) (ρ h) (ρ m))
    | none => .err
noncomputable def kFieldAddr (t : TypeId) (x : Operand) (f : Nat) (P : Program) (ρ : Operand → Value) (s : St) : OpR := valP s (evField P t (ρ x) f)
noncomputable def kField (t : TypeId) (x : Operand) (f : Nat) (P : Program) (ρ : Operand → Value) (s : St) : OpR := valP s (evFieldV P t (ρ x) f)
noncomputable def kIndexAddr (t : TypeId) (x i : Operand) (P : Program) (ρ : Operand → Value) (s : St) : OpR := valP s (evIndexAddr P t (ρ x) (ρ i))
noncomputable def kIndex (t : TypeId) (x i : Operand) (P : Program) (ρ : Operand → Value) (s : St) : OpR := valP s (evIndex P t (ρ x) (ρ i))
noncomputable def kLookup (t : TypeId) (x k : Operand) (ok : Bool) (P : Program) (ρ : Operand → Value) (s : St) : OpR := valP s (evLookup P s t (ρ x) (ρ k) ok)
noncomputable def kMapUpdate (t : TypeId) (m k x : Operand) (P : Program) (ρ : Operand → Value) (s : St) : OpR := skipR (evMapUpdate P s t (ρ m) (ρ k) (ρ x))
noncomputable def kAssert (x : Operand) (_ : TypeId) (t : TypeId) (ok : Bool) (P : Program) (ρ : Operand → Value) (s : St) : OpR := valP s (evAssert P t ok (ρ x))
noncomputable def kExtract (x : Operand) (i : Nat) (_ : Program) (ρ : Operand → Value) (s : St) : OpR := valP s (evExtract (ρ x) i)
noncomputable def kCallB [Sym] (P : Program) (s : St) (ts : Array TypeId) (l : List Value) (b : Builtin) : OpR := evBuiltin P s b ts l
noncomputable def kCall [Sym] (c : Call) (P : Program) (ρ : Operand → Value) (s : St) : OpR :=
  Callee.rec (motive := fun _ => OpR) (fun f => evCallV P s (ρ f) (c.args.toList.map ρ)) (fun r name => evCallM P s (ρ r) name (c.args.toList.map ρ)) (fun b => kCallB P s c.argTypes (c.args.toList.map ρ) b) c.callee
noncomputable def e1 {α : Type} (_ : α) : OpK := fun _ _ _ => .err
noncomputable def e2 {α β : Type} (_ : α) (_ : β) : OpK := fun _ _ _ => .err
noncomputable def e3 {α β γ : Type} (_ : α) (_ : β) (_ : γ) : OpK := fun _ _ _ => .err
noncomputable def e4 {α β γ δ : Type} (_ : α) (_ : β) (_ : γ) (_ : δ) : OpK := fun _ _ _ => .err
noncomputable def evOpF [Sym] (op : Op) : OpK :=
  Op.rec (motive := fun _ => OpK) kMove kMove kPick kAlloc kBox kBuild kBuildSlice e4 kLoad kStore e1 e1 kNil kBin kUn kConv e2 kIface kFunc kMakeMap e2 kMakeSlice kSlice kFieldAddr kField kIndexAddr kIndex kLookup kMapUpdate e3 e4 e2 e2 e1 kAssert kExtract kCall e1 e1 e1 e2 e3 e2 op
theorem evOpF_eq [Sym] (P : Program) (op : Op) (ρ : Operand → Value) (s : St) : evOpF op P ρ s = evOp P op ρ s := by
  cases op with
  | pick c a b =>
    show kPick1 (ρ a) (ρ b) s (ρ c) = _
    simp only [evOp]
    cases ρ c with
    | bool b => cases b <;> rfl
    | _ => rfl
  | store t a x =>
    show skipR (evStore P s t (ρ a) (ρ x)) = _
    simp only [evOp]
    cases evStore P s t (ρ a) (ρ x) <;> rfl
  | mapUpdate t m k x =>
    show skipR (evMapUpdate P s t (ρ m) (ρ k) (ρ x)) = _
    simp only [evOp]
    cases evMapUpdate P s t (ρ m) (ρ k) (ρ x) <;> rfl
  | binOp op t x y ty =>
    show cond (isTk (ρ x) || isTk (ρ y)) _ _ = _
    simp only [evOp]
    cases (isTk (ρ x) || isTk (ρ y)) <;> rfl
  | unOp op t x =>
    show cond (isTk (ρ x)) _ _ = _
    simp only [evOp]
    cases (isTk (ρ x)) <;> rfl
  | convert a b x =>
    show cond (isTk (ρ x)) _ _ = _
    simp only [evOp]
    cases (isTk (ρ x)) <;> rfl
  | makeMap t r => cases r <;> rfl
  | slice t x lo hi mx =>
    cases mx with
    | none => rfl
    | some m => cases hi <;> rfl
  | call c =>
    show Callee.rec (motive := fun _ => OpR) _ _ _ c.callee = _
    simp only [evOp]
    cases c.callee <;> rfl
  | _ => rfl

noncomputable def putF (N : Nat) (v : Value) (t : Tm) (dst : Option Tmp) : Option Tm := Option.rec (motive := fun _ => Option Tm) (some t) (fun d => cond (Nat.blt d N) (some (Tr.set undef v d t)) none) dst
theorem putF_eq (N : Nat) (v : Value) (t : Tm) (dst : Option Tmp) : putF N v t dst = putT N dst v t := by
  cases dst with
  | none => rfl
  | some d =>
    show cond (Nat.blt d N) _ _ = (if d < N then _ else _)
    by_cases h : d < N
    · rw [if_pos h, show Nat.blt d N = true from by rw [Nat.blt_eq]; exact h]; rfl
    · rw [if_neg h]
      cases hb : Nat.blt d N with
      | true => exact (h (by rw [Nat.blt_eq] at hb; exact hb)).elim
      | false => rfl
noncomputable def pairF (s : St) (o : Option Tm) : Option (Tm × St) := Option.rec (motive := fun _ => Option (Tm × St)) none (fun t => some (t, s)) o
theorem pairF_eq (s : St) (o : Option Tm) : pairF s o = o.map fun t' => (t', s) := by cases o <;> rfl
noncomputable def resVal (N : Nat) (dst : Option Tmp) (t : Tm) (r : Res) : Option (Tm × St) := Res.rec (motive := fun _ => Option (Tm × St)) (fun _ _ _ => none) (fun v s' => pairF s' (putF N v t dst)) none r
noncomputable def opVal (N : Nat) (dst : Option Tmp) (t : Tm) (s : St) (self : Req → Res) (r : OpR) : Option (Tm × St) :=
  OpR.rec (motive := fun _ => Option (Tm × St)) (fun v s' => pairF s' (putF N v t dst)) (fun s' => pairF s' (putF N undef t dst)) (fun f args => resVal N dst t (self (.fn f args s))) none r
noncomputable def step1F [Sym] (P : Program) (self : Req → Res) (ops : Array Oper) (N : Nat) (o : Oper) (t : Tm) (s : St) : Option (Tm × St) :=
  cond (gv t ops o) (opVal N o.dst t s self (evOpF o.op P (ov t) s)) (pairF s (putF N undef t o.dst))
theorem step1F_eq [Sym] (P : Program) (self : Req → Res) (ops : Array Oper) (N : Nat) (o : Oper) (t : Tm) (s : St) : step1F P self ops N o t s = step1 P self ops N o t s := by
  unfold step1F step1
  cases gv t ops o with
  | false => simp [pairF_eq, putF_eq]
  | true =>
    rw [cond_true, if_pos rfl, evOpF_eq]
    cases evOp P o.op (ov t) s with
    | val v s' => simp only [opVal, pairF_eq, putF_eq]
    | skip s' => simp only [opVal, pairF_eq, putF_eq]
    | call f args =>
      simp only [opVal]
      cases self (.fn f args s) <;> simp only [resVal, pairF_eq, putF_eq]
    | err => rfl
noncomputable def thenF (k : Tm → St → Option (Tm × St)) (r : Option (Tm × St)) : Option (Tm × St) := Option.rec (motive := fun _ => Option (Tm × St)) none (fun p => Prod.rec (motive := fun _ => Option (Tm × St)) k p) r
noncomputable def evOpsF [Sym] (P : Program) (self : Req → Res) (ops : Array Oper) (N : Nat) (l : List Oper) : Tm → St → Option (Tm × St) :=
  List.rec (motive := fun _ => Tm → St → Option (Tm × St)) (fun t s => some (t, s)) (fun o _ ih t s => thenF ih (step1F P self ops N o t s)) l
theorem evOpsF_eq [Sym] (P : Program) (self : Req → Res) (ops : Array Oper) (N : Nat) : ∀ (l : List Oper) (t : Tm) (s : St), evOpsF P self ops N l t s = evOps P self ops N l t s
  | [], _, _ => rfl
  | o :: l, t, s => by
    show thenF (evOpsF P self ops N l) (step1F P self ops N o t s) = _
    rw [step1F_eq]
    simp only [evOps]
    cases step1 P self ops N o t s with
    | none => rfl
    | some p => exact evOpsF_eq P self ops N l p.1 p.2
noncomputable def consF (x : Tm × St) (r : Option (List (Tm × St))) : Option (List (Tm × St)) := Option.rec (motive := fun _ => Option (List (Tm × St))) none (fun l => some (x :: l)) r
noncomputable def thenT (x : Tm × St) (k : Tm → St → Option (List (Tm × St))) (r : Option (Tm × St)) : Option (List (Tm × St)) :=
  Option.rec (motive := fun _ => Option (List (Tm × St))) none (fun p => consF x (Prod.rec (motive := fun _ => Option (List (Tm × St))) k p)) r
noncomputable def trcF [Sym] (P : Program) (self : Req → Res) (ops : Array Oper) (N : Nat) (l : List Oper) : Tm → St → Option (List (Tm × St)) :=
  List.rec (motive := fun _ => Tm → St → Option (List (Tm × St))) (fun t s => some [(t, s)]) (fun o _ ih t s => thenT (t, s) ih (step1F P self ops N o t s)) l
theorem trcF_eq [Sym] (P : Program) (self : Req → Res) (ops : Array Oper) (N : Nat) : ∀ (l : List Oper) (t : Tm) (s : St), trcF P self ops N l t s = trc P self ops N l t s
  | [], _, _ => rfl
  | o :: l, t, s => by
    show thenT (t, s) (trcF P self ops N l) (step1F P self ops N o t s) = _
    rw [step1F_eq]
    simp only [trc]
    cases step1 P self ops N o t s with
    | none => rfl
    | some p =>
      show consF (t, s) (trcF P self ops N l p.1 p.2) = _
      rw [trcF_eq P self ops N l p.1 p.2]
      obtain ⟨t', s'⟩ := p
      simp only
      cases trc P self ops N l t' s' <;> rfl
noncomputable def rd2 (n : Nat) (v : Value) (r : OpR) : Bool := OpR.rec (motive := fun _ => Bool) (fun u _ => veq v u) (fun _ => false) (fun _ _ => false) false r
noncomputable def rd1 (n : Nat) (q : OpR) (r : OpR) : Bool := OpR.rec (motive := fun _ => Bool) (fun v s' => Nat.beq s'.n n && rd2 n v q) (fun _ => false) (fun _ _ => false) false r
noncomputable def rdOkF [Sym] (P : Program) (o : Oper) (t : Tm) (si sm : St) : Bool := rd1 sm.n (evOpF o.op P (ov t) si) (evOpF o.op P (ov t) sm)
theorem rdOkF_eq [Sym] (P : Program) (o : Oper) (t : Tm) (si sm : St) : rdOkF P o t si sm = rdOk P o t si sm := by
  unfold rdOkF rdOk
  rw [evOpF_eq, evOpF_eq]
  cases evOp P o.op (ov t) sm with
  | val v s' =>
    cases evOp P o.op (ov t) si with
    | val u s'' => rfl
    | _ => simp [rd1, rd2]
  | _ => cases evOp P o.op (ov t) si <;> rfl
/-- The places at which a reader may stand, beside its own. -/
noncomputable def spots (P : Program) (ops : Array Oper) (i : Nat) : List Nat := (List.range (ops.size + 1)).filter fun m => condB P ops i m
noncomputable def isRd (P : Program) (o : Oper) : Bool := Kd.rec (motive := fun _ => Bool) false true false (kOf P o.op)
/-- The readers of a region, each with the places at which it may stand. -/
noncomputable def rdList (P : Program) (ops : Array Oper) : List (Nat × Oper × List Nat) :=
  (List.range ops.size).filterMap fun i => match ops[i]? with
    | some o => if isRd P o = true then some (i, o, spots P ops i) else none
    | none => none
noncomputable def allF {α : Type} (p : α → Bool) (l : List α) : Bool := List.rec (motive := fun _ => Bool) true (fun a _ ih => cond (p a) ih false) l
theorem allF_eq {α : Type} (p : α → Bool) : ∀ l : List α, allF p l = l.all p
  | [] => rfl
  | a :: l => by
    show cond (p a) (allF p l) false = _
    rw [allF_eq p l, List.all_cons]
    cases p a <;> rfl
noncomputable def rdAt [Sym] (P : Program) (ops : Array Oper) (L : List (Tm × St)) (r : Nat × Oper × List Nat) : Bool :=
  cond (gv (L.getD r.1 dummy).1 ops r.2.1) (allF (fun m => rdOkF P r.2.1 (L.getD r.1 dummy).1 (L.getD r.1 dummy).2 (L.getD m dummy).2) r.2.2) true
noncomputable def readersF [Sym] (P : Program) (ops : Array Oper) (L : List (Tm × St)) : Bool := allF (rdAt P ops L) (rdList P ops)
theorem readersF_le [Sym] (P : Program) (ops : Array Oper) (L : List (Tm × St)) (h : readersF P ops L = true) : readersOk P ops L = true := by
  unfold readersF at h
  rw [allF_eq, List.all_eq_true] at h
  unfold readersOk
  rw [List.all_eq_true]
  intro i hi
  cases ho : ops[i]? with
  | none => rfl
  | some o =>
    cases hk : kOf P o.op with
    | pure => simp only [hk]
    | write => simp only [hk]
    | read =>
      simp only [hk]
      cases hg : gv (L.getD i dummy).1 ops o with
      | false => rfl
      | true =>
        simp only [Bool.not_true, Bool.false_or]
        rw [List.all_eq_true]
        intro m hm
        cases hc : condB P ops i m with
        | false => rfl
        | true =>
          simp only [Bool.not_true, Bool.false_or]
          have hr : isRd P o = true := by unfold isRd; rw [hk]
          have hmem : (i, o, spots P ops i) ∈ rdList P ops := by
            unfold rdList
            rw [List.mem_filterMap]
            exact ⟨i, hi, by rw [ho]; simp only [if_pos hr]⟩
          have h1 := h _ hmem
          unfold rdAt at h1
          simp only at h1
          rw [hg, cond_true, allF_eq, List.all_eq_true] at h1
          have h2 := h1 m (by unfold spots; rw [List.mem_filter]; exact ⟨hm, hc⟩)
          rw [rdOkF_eq] at h2
          exact h2
theorem readersF_ge [Sym] (P : Program) (ops : Array Oper) (L : List (Tm × St)) (h : readersOk P ops L = true) : readersF P ops L = true := by
  unfold readersF
  rw [allF_eq, List.all_eq_true]
  intro r hr
  unfold rdList at hr
  rw [List.mem_filterMap] at hr
  obtain ⟨i, hi, hr⟩ := hr
  unfold readersOk at h
  rw [List.all_eq_true] at h
  have h1 := h i hi
  cases ho : ops[i]? with
  | none => rw [ho] at hr; cases hr
  | some o =>
    rw [ho] at hr h1
    simp only at hr h1
    by_cases hrd : isRd P o = true
    · rw [if_pos hrd] at hr
      injection hr with hr; subst hr
      unfold rdAt
      simp only
      have hk : kOf P o.op = .read := by
        unfold isRd at hrd
        cases hk : kOf P o.op <;> rw [hk] at hrd <;> first | rfl | cases hrd
      rw [hk] at h1
      simp only at h1
      cases hg : gv (L.getD i dummy).1 ops o with
      | false => rfl
      | true =>
        rw [hg] at h1
        simp only [Bool.not_true, Bool.false_or] at h1
        rw [List.all_eq_true] at h1
        rw [cond_true, allF_eq, List.all_eq_true]
        intro m hm
        unfold spots at hm
        rw [List.mem_filter] at hm
        have h2 := h1 m hm.1
        rw [hm.2] at h2
        rw [rdOkF_eq]
        simpa using h2
    · rw [if_neg hrd] at hr; cases hr
theorem readersF_eq [Sym] (P : Program) (ops : Array Oper) (L : List (Tm × St)) : readersF P ops L = readersOk P ops L := by
  cases h1 : readersF P ops L with
  | true => exact (readersF_le P ops L h1).symm
  | false =>
    cases h2 : readersOk P ops L with
    | false => rfl
    | true => rw [readersF_ge P ops L h2] at h1; cases h1
noncomputable def drawEnd [Sym] (P : Program) (ops : Array Oper) (r : Option (List (Tm × St))) : Option (Tm × St) :=
  Option.rec (motive := fun _ => Option (Tm × St)) none (fun L => cond (readersF P ops L) (some (L.getD ops.size dummy)) none) r
noncomputable def evDrawF [Sym] (P : Program) (self : Req → Res) (ops : Array Oper) (N : Nat) (t : Tm) (s : St) : Option (Tm × St) :=
  cond (drawOk P ops) (drawEnd P ops (trcF P self ops N ops.toList t s)) none
theorem evDrawF_eq [Sym] (P : Program) (self : Req → Res) (ops : Array Oper) (N : Nat) (t : Tm) (s : St) : evDrawF P self ops N t s = evDraw P self ops N t s := by
  unfold evDrawF evDraw
  cases hd : drawOk P ops with
  | false => rfl
  | true =>
    rw [cond_true, trcF_eq, if_pos rfl]
    cases trc P self ops N ops.toList t s with
    | none => rfl
    | some L =>
      simp only [drawEnd, readersF_eq]
      cases readersOk P ops L <;> rfl

/-! code -/
noncomputable def evRegF [Sym] (P : Program) (self : Req → Res) (ops : Array Oper) (draw : Bool) (N : Nat) (t : Tm) (s : St) : Option (Tm × St) :=
  cond (okOps ops) (cond draw (evDrawF P self ops N t s) (evOpsF P self ops N ops.toList t s)) none
theorem evRegF_eq [Sym] (P : Program) (self : Req → Res) (ops : Array Oper) (draw : Bool) (N : Nat) (t : Tm) (s : St) : evRegF P self ops draw N t s = evReg P self ops draw N t s := by
  unfold evRegF evReg
  cases okOps ops with
  | false => rfl
  | true => cases draw <;> simp [evDrawF_eq, evOpsF_eq]
abbrev CoK := Program → (Req → Res) → Nat → Tm → St → Res
noncomputable def cSkip : CoK := fun _ _ _ t s => .fin .normal t s
noncomputable def finR (r : Option (Tm × St)) : Res := Option.rec (motive := fun _ => Res) .err (fun p => Prod.rec (motive := fun _ => Res) (fun t s => .fin .normal t s) p) r
noncomputable def cRegion [Sym] (_ : Nat) (ops : Array Oper) (draw : Bool) : CoK := fun P self N t s => finR (evRegF P self ops draw N t s)
noncomputable def seqE (b : Code) (self : Req → Res) (N : Nat) (e : EX) (t : Tm) (s : St) : Res := EX.rec (motive := fun _ => Res) (self (.code b N t s)) (fun i => .fin (.exit i) t s) (.fin .ret t s) e
noncomputable def seqR (b : Code) (self : Req → Res) (N : Nat) (r : Res) : Res := Res.rec (motive := fun _ => Res) (seqE b self N) (fun _ _ => .err) .err r
noncomputable def cSeq (a b : Code) (_ _ : CoK) : CoK := fun _ self N t s => seqR b self N (self (.code a N t s))
def condV (u v : Res) : Value → Res
  | .bool true => u
  | .bool false => v
  | _ => .err
noncomputable def cCond (x : Operand) (a b : Code) (_ _ : CoK) : CoK := fun _ self N t s => cond (okOpd x) (condV (self (.code a N t s)) (self (.code b N t s)) (ov t x)) .err
noncomputable def blkE (i : Nat) (e : EX) (t : Tm) (s : St) : Res := EX.rec (motive := fun _ => Res) (.fin .normal t s) (fun j => cond (Nat.beq j i) (.fin .normal t s) (.fin (.exit j) t s)) (.fin .ret t s) e
noncomputable def blkR (i : Nat) (r : Res) : Res := Res.rec (motive := fun _ => Res) (blkE i) (fun _ _ => .err) .err r
noncomputable def cBlock (i : Nat) (b : Code) (_ : CoK) : CoK := fun _ self N t s => blkR i (self (.code b N t s))
noncomputable def cLoop (b : Code) (_ : CoK) : CoK := fun _ self N t s => seqR (.loop b) self N (self (.code b N t s))
noncomputable def cErr : CoK := fun _ _ _ _ _ => .err
noncomputable def cExit (i : Nat) : CoK := fun _ _ _ t s => .fin (.exit i) t s
noncomputable def cRet : CoK := fun _ _ _ t s => .fin .ret t s
noncomputable def stepCodeF [Sym] (c : Code) : CoK :=
  Code.rec (motive := fun _ => CoK) cSkip cRegion cSeq cCond cBlock cLoop (fun _ _ _ _ _ _ => cErr) cExit (fun _ _ => cErr) (fun _ => cSkip) (fun _ => cErr) cRet (fun _ => cErr) c
theorem seqR_eq (b : Code) (self : Req → Res) (N : Nat) (r : Res) : seqR b self N r = (match r with | .fin .normal t s => self (.code b N t s) | .fin e t s => .fin e t s | _ => .err) := by
  cases r with
  | fin e t s => cases e <;> rfl
  | _ => rfl
theorem stepCodeF_eq [Sym] (P : Program) (self : Req → Res) (c : Code) (N : Nat) (t : Tm) (s : St) : stepCodeF c P self N t s = stepCode P self c N t s := by
  cases c with
  | seq a b => exact seqR_eq b self N _
  | loop b => exact seqR_eq (.loop b) self N _
  | region i ops draw =>
    show finR (evRegF P self ops draw N t s) = _
    rw [evRegF_eq]
    simp only [stepCode]
    cases evReg P self ops draw N t s <;> rfl
  | cond x a b =>
    show cond (okOpd x) _ _ = _
    simp only [stepCode]
    cases okOpd x with
    | false => rfl
    | true =>
      rw [cond_true, if_pos rfl]
      cases ov t x with
      | bool v => cases v <;> rfl
      | _ => rfl
  | block i b =>
    show blkR i (self (.code b N t s)) = _
    simp only [stepCode]
    cases self (.code b N t s) with
    | fin e t' s' =>
      cases e with
      | exit j =>
        show cond (Nat.beq j i) _ _ = (if j = i then _ else _)
        by_cases h : j = i
        · subst h; rw [if_pos rfl, Nat.beq_refl]; rfl
        · rw [if_neg h]
          cases hb : Nat.beq j i with
          | true => exact (h (Nat.eq_of_beq_eq_true hb)).elim
          | false => rfl
      | _ => rfl
    | _ => rfl
  | _ => rfl
noncomputable def resK (l : Option (List Value)) (s : St) : Res := Option.rec (motive := fun _ => Res) .err (fun l => .val (oneOr l) s) l
noncomputable def fnE (P : Program) (fn : Func) (e : EX) (t : Tm) (s : St) : Res := EX.rec (motive := fun _ => Res) (resK (evResults P s t fn.results.toList) s) (fun _ => .err) (resK (evResults P s t fn.results.toList) s) e
noncomputable def fnR (P : Program) (fn : Func) (r : Res) : Res := Res.rec (motive := fun _ => Res) (fnE P fn) (fun _ _ => .err) .err r
noncomputable def fnB (P : Program) (self : Req → Res) (fn : Func) (args : List Value) (s : St) (b : Code) : Res :=
  cond (Nat.ble args.length fn.ntmps) (fnR P fn (self (.code b fn.ntmps (put args 0 .leaf) s))) .err
noncomputable def fnF (P : Program) (self : Req → Res) (args : List Value) (s : St) (fn : Func) : Res := Option.rec (motive := fun _ => Res) .err (fnB P self fn args s) fn.body
noncomputable def stepFnF (P : Program) (self : Req → Res) (g : FuncId) (args : List Value) (s : St) : Res := Option.rec (motive := fun _ => Res) .err (fnF P self args s) P.funcs[g]?
theorem stepFnF_eq [Sym] (P : Program) (self : Req → Res) (g : FuncId) (args : List Value) (s : St) : stepFnF P self g args s = stepFn P self g args s := by
  unfold stepFnF stepFn
  cases P.funcs[g]? with
  | none => rfl
  | some fn =>
    show fnF P self args s fn = _
    unfold fnF
    simp only
    cases fn.body with
    | none => rfl
    | some b =>
      show cond (Nat.ble args.length fn.ntmps) _ _ = _
      simp only
      by_cases h : args.length ≤ fn.ntmps
      · rw [if_pos h, show Nat.ble args.length fn.ntmps = true from Nat.ble_eq ▸ h, cond_true]
        cases self (.code b fn.ntmps (put args 0 .leaf) s) with
        | fin e t s' =>
          cases e with
          | exit i => rfl
          | normal =>
            show resK (evResults P s' t fn.results.toList) s' = _
            simp only
            cases evResults P s' t fn.results.toList <;> rfl
          | ret =>
            show resK (evResults P s' t fn.results.toList) s' = _
            simp only
            cases evResults P s' t fn.results.toList <;> rfl
        | _ => rfl
      · rw [if_neg h]
        cases hb : Nat.ble args.length fn.ntmps with
        | true => exact (h (Nat.ble_eq ▸ hb)).elim
        | false => rfl
noncomputable def orcR (k : Res) (r : Option (Value × St)) : Res := Option.rec (motive := fun _ => Res) k (fun p => Prod.rec (motive := fun _ => Res) (fun v s => .val v s) p) r
noncomputable def stepF [Sym] (P : Program) (orc : Orc) (self : Req → Res) (q : Req) : Res :=
  Req.rec (motive := fun _ => Res) (fun c N t s => stepCodeF c P self N t s) (fun g args s => orcR (stepFnF P self g args s) (orc g args s)) q
theorem stepF_eq [Sym] (P : Program) (orc : Orc) (self : Req → Res) (q : Req) : stepF P orc self q = step P orc self q := by
  cases q with
  | code c N t s => exact stepCodeF_eq P self c N t s
  | fn g args s =>
    show orcR (stepFnF P self g args s) (orc g args s) = _
    rw [stepFnF_eq]
    simp only [step]
    cases orc g args s with
    | none => rfl
    | some p => rfl
noncomputable def runF [Sym] (P : Program) (orc : Orc) (n : Nat) : Req → Res :=
  Nat.rec (motive := fun _ => Req → Res) (fun _ => .err) (fun _ ih => stepF P orc ih) n
theorem runF_eq [Sym] (P : Program) (orc : Orc) : ∀ n, runF P orc n = run P orc n
  | 0 => rfl
  | n + 1 => by
    funext q
    show stepF P orc (runF P orc n) q = step P orc (run P orc n) q
    rw [stepF_eq, runF_eq P orc n]
theorem fast [Sym] {P : Program} {orc : Orc} {n : Nat} {q : Req} (h : isTrue (runF P orc n q) = true) : isTrue (run P orc n q) = true := by rw [← runF_eq]; exact h
end
end Go.Ev
