/-
  A verified evaluator of the model's code, part W (own work): no condition; the theorem 'sound' of its last part is what a claim uses.
-/
import Derived.Test.YtedjimkpmmacoaaGreatDoorEvV
namespace Go.Ev
set_option linter.all false
set_option linter.unusedVariables false
set_option linter.unusedSimpArgs false
set_option linter.unusedSectionVars false
set_option linter.unnecessarySimpa false
open Go Go.RowKit
variable [Tok] [Sym]
section
variable {P : Program} {B : Nat → Prop} {γ : Gh} {s : St} {w : World}

noncomputable def trc (P : Program) (self : Req → Res) (ops : Array Oper) (N : Nat) : List Oper → Tm → St → Option (List (Tm × St))
  | [], t, s => some [(t, s)]
  | o :: os, t, s => match step1 P self ops N o t s with
    | some (t', s') => (trc P self ops N os t' s').map ((t, s) :: ·)
    | none => none
def dummy : Tm × St := (.leaf, st0)

def isW (P : Program) (ops : Array Oper) (i : Nat) : Prop := ∃ o, ops[i]? = some o ∧ kOf P o.op = .write
noncomputable def isWb (P : Program) (ops : Array Oper) (i : Nat) : Bool :=
  match ops[i]? with
  | some o => match kOf P o.op with
    | .write => true
    | _ => false
  | none => false
/-- A new object, made whatever else happens. -/
structure Mk where
  elem : TypeId
  sz : Nat
  vs : List Value
  sl : Option (Nat × Nat)
def Mk.val (k : Mk) (id : Nat) : Value :=
  match k.sl with
  | none => .pointer (some ⟨id, 0, none⟩)
  | some q => .slice (some ⟨id, 0, none⟩) q.1 q.2
def Maker (P : Program) (op : Op) (ρ : Operand → Value) (k : Mk) : Prop := ∀ s₂ : St, evOp P op ρ s₂ = .val (k.val s₂.n) (s₂.mk' k.elem k.sz false k.vs)
def isMk : Op → Bool
  | .alloc _ => true
  | .box _ _ => true
  | .buildSlice _ _ _ => true
  | .makeSlice _ _ _ => true
  | _ => false
theorem mk_kOf {op : Op} (h : isMk op = true) : kOf P op = .write := by
  cases op <;> simp only [isMk, Bool.false_eq_true] at h <;> rfl
theorem mk_spec {op : Op} {ρ : Operand → Value} {s s' : St} {v : Value} (h : isMk op = true) (he : evOp P op ρ s = .val v s') : ∃ k, Maker P op ρ k ∧ ∀ n, (∀ x ∈ op.operands, Wf n (ρ x)) → ∀ v ∈ k.vs, Wf n v := by
  cases op <;> simp only [isMk, Bool.false_eq_true] at h
  case alloc e =>
    simp only [evOp] at he
    have he := valR_val he
    unfold evAlloc at he
    split at he
    · rename_i z hz
      split at he
      · rename_i hf
        refine ⟨⟨e, 0, z.cells.toList, none⟩, fun s₂ => ?_, fun n _ v hv => Wf_cells (flat_wf n hf) v (by simpa using hv)⟩
        simp only [evOp, evAlloc, hz, if_pos hf]; rfl
      · cases he
    · cases he
  case box e x => exact ⟨⟨e, 0, (ρ x).cells.toList, none⟩, fun s₂ => rfl, fun n hw v hv => Wf_cells (hw x (by simp [Op.operands])) v (by simpa using hv)⟩
  case makeSlice t l c =>
    simp only [evOp] at he
    have he := valR_val he
    unfold evMakeSlice at he
    split at he
    · rename_i elem k1 l' k2 c' hu hl hc
      split at he
      · rename_i size z by_ hsz hz hby
        split at he
        · rename_i hq
          refine ⟨⟨elem, size, zs z c'.toNat, some (l'.toNat, c'.toNat)⟩, fun s₂ => ?_, fun n _ v hv => Wf_cells (flat_wf n hq.1) v (zs_mem z _ v hv)⟩
          simp only [evOp, evMakeSlice, hu, hl, hc, hsz, hz, hby, if_pos hq]; rfl
        · cases he
      · cases he
    · cases he
  case buildSlice t n ps =>
    simp only [evOp] at he
    have he := valR_val he
    unfold evBuildSlice at he
    split at he
    · rename_i elem hu
      split at he
      · rename_i size z hsz hz
        split at he
        · rename_i hc
          split at he
          · rename_i cells hcl
            refine ⟨⟨elem, size, cells.toList, some (n, n)⟩, fun s₂ => ?_, fun k hw v hv => ?_⟩
            · simp only [evOp, evBuildSlice, hu, hsz, hz, if_pos hc, hcl]; rfl
            · refine fill_wf k _ _ _ _ (fun x hx => ?_) (fun x hx => Wf_cells (flat_wf k hc.1) x (zs_mem z n x (by simpa using hx))) hcl v (by simpa using hv)
              obtain ⟨p, hp, rfl⟩ := List.mem_map.1 hx
              exact hw p.2 (by simp only [Op.operands]; simp; exact ⟨p.1, by simpa using hp⟩)
          · cases he
        · cases he
      · cases he
    · cases he
def isAlO (o : Oper) : Bool := isMk o.op && (o.guard.isNone && o.dst.isSome)
def isAlb (ops : Array Oper) (j : Nat) : Bool :=
  match ops[j]? with
  | some o => isAlO o
  | none => false
noncomputable def tb (ops : Array Oper) (i j : Nat) : Bool := ((Region.before ops).getD j 0).testBit i
noncomputable def pairOk (P : Program) (ops : Array Oper) (i j : Nat) : Bool :=
  match ops[i]?, ops[j]? with
  | some x, some y => tb ops i j || (Oper.apart ops x y && (!(isWb P ops i && isWb P ops j) || isAlO y))
  | _, _ => true
/-- What hangs on a new variable hangs on all that is written ahead of it. -/
noncomputable def alOk (P : Program) (ops : Array Oper) : Bool :=
  (List.range ops.size).all fun j => !isAlb ops j || (List.range ops.size).all fun i => !tb ops j i || (List.range j).all fun j' => !isWb P ops j' || tb ops j' i
noncomputable def drawOk (P : Program) (ops : Array Oper) : Bool :=
  alOk P ops && (List.range ops.size).all fun j =>
    (match ops[j]? with
     | some o => o.after.toList.all fun e => !Region.binds .any e || decide (e.on < j)
     | none => true) &&
    (List.range j).all fun i => pairOk P ops i j
/-- May operation i stand where the writers ahead of place m have been, and no others? -/
noncomputable def condB (P : Program) (ops : Array Oper) (i m : Nat) : Bool :=
  (List.range ops.size).all fun j => !isWb P ops j || ((!tb ops j i || decide (j < m)) && (!tb ops i j || decide (m ≤ j)))
noncomputable def rdOk (P : Program) (o : Oper) (t : Tm) (si sm : St) : Bool :=
  match evOp P o.op (ov t) sm, evOp P o.op (ov t) si with
  | .val v s', .val u _ => Nat.beq s'.n sm.n && veq v u
  | _, _ => false
/-- Where the memory may have turned: at the head, and behind each writer. -/
noncomputable def startB (P : Program) (ops : Array Oper) (m : Nat) : Bool := Nat.beq m 0 || isWb P ops (m - 1)
noncomputable def readersOk (P : Program) (ops : Array Oper) (L : List (Tm × St)) : Bool :=
  (List.range ops.size).all fun i =>
    match ops[i]? with
    | some o => match kOf P o.op with
      | .read => !gv (L.getD i dummy).1 ops o || (rdOk P o (L.getD i dummy).1 (L.getD i dummy).2 (L.getD i dummy).2 &&
          (List.range (ops.size + 1)).all fun m => !(condB P ops i m && startB P ops m) || rdOk P o (L.getD i dummy).1 (L.getD i dummy).2 (L.getD m dummy).2)
      | _ => true
    | none => true
noncomputable def evDraw (P : Program) (self : Req → Res) (ops : Array Oper) (N : Nat) (t : Tm) (s : St) : Option (Tm × St) :=
  if drawOk P ops = true then
    match trc P self ops N ops.toList t s with
    | some L => if readersOk P ops L = true then some (L.getD ops.size dummy) else none
    | none => none
  else none

theorem trc_spec {self : Req → Res} {ops : Array Oper} {N : Nat} : ∀ (l : List Oper) (t : Tm) (s : St) (L : List (Tm × St)), trc P self ops N l t s = some L →
    L.getD 0 dummy = (t, s) ∧ ∀ i o, l[i]? = some o → step1 P self ops N o (L.getD i dummy).1 (L.getD i dummy).2 = some (L.getD (i + 1) dummy)
  | [], t, s, L, h => by
    simp only [trc, Option.some.injEq] at h
    subst h
    exact ⟨rfl, fun i o h => by simp at h⟩
  | o :: os, t, s, L, h => by
    simp only [trc] at h
    split at h
    · rename_i t' s' h1
      cases hr : trc P self ops N os t' s' with
      | none => simp [hr] at h
      | some L' =>
        simp [hr] at h
        subst h
        obtain ⟨h0, hs⟩ := trc_spec os t' s' L' hr
        refine ⟨rfl, fun i o' ho => ?_⟩
        cases i with
        | zero =>
          simp at ho
          subst ho
          have : ((t, s) :: L').getD 1 dummy = L'.getD 0 dummy := rfl
          rw [Nat.zero_add, this, h0]
          exact h1
        | succ i =>
          simp at ho
          exact hs i o' ho
    · cases h

theorem isWb_iff (ops : Array Oper) (i : Nat) : isWb P ops i = true ↔ isW P ops i := by
  unfold isWb isW
  cases h : ops[i]? with
  | none => simp
  | some o =>
    simp only [Option.some.injEq, exists_eq_left']
    cases hk : kOf P o.op <;> simp

def stepB (acc : Array Nat) (o : Oper) : Nat := o.after.foldl (fun s e => if Region.binds .any e then s ||| 2 ^ e.on ||| acc.getD e.on 0 else s) 0
def goB (l : List Oper) (acc : Array Nat) : Array Nat := l.foldl (fun acc o => acc.push (stepB acc o)) acc
theorem goB_old : ∀ (l : List Oper) (acc : Array Nat) (i : Nat), i < acc.size → (goB l acc).getD i 0 = acc.getD i 0
  | [], _, _, _ => rfl
  | o :: l, acc, i, h => by
    show (goB l (acc.push (stepB acc o))).getD i 0 = _
    rw [goB_old l _ i (by simp; omega)]
    have h' : i < (acc.push (stepB acc o)).size := by simp; omega
    simp [Array.getElem?_push, Nat.ne_of_lt h, h]
theorem goB_new : ∀ (l : List Oper) (acc : Array Nat) (j : Nat) (o : Oper), l[j]? = some o →
    ∃ acc' : Array Nat, (∀ i, i < acc.size + j → acc'.getD i 0 = (goB l acc).getD i 0) ∧ (goB l acc).getD (acc.size + j) 0 = stepB acc' o
  | [], _, _, _, h => by simp at h
  | x :: l, acc, 0, o, h => by
    simp at h
    subst h
    refine ⟨acc, fun i hi => (goB_old (x :: l) acc i (by omega)).symm, ?_⟩
    show (goB l (acc.push (stepB acc x))).getD (acc.size + 0) 0 = _
    rw [goB_old l _ _ (by simp)]
    simp
  | x :: l, acc, j + 1, o, h => by
    simp at h
    obtain ⟨acc', h1, h2⟩ := goB_new l (acc.push (stepB acc x)) j o h
    have hs : (acc.push (stepB acc x)).size = acc.size + 1 := by simp
    rw [hs] at h1 h2
    refine ⟨acc', fun i hi => h1 i (by omega), ?_⟩
    show (goB l (acc.push (stepB acc x))).getD (acc.size + (j + 1)) 0 = _
    rw [show acc.size + (j + 1) = acc.size + 1 + j from by omega]
    exact h2
theorem fold_bits (acc : Array Nat) (i : Nat) : ∀ (l : List Edge) (s : Nat), (l.foldl (fun s e => if Region.binds .any e then s ||| 2 ^ e.on ||| acc.getD e.on 0 else s) s).testBit i = true →
    s.testBit i = true ∨ ∃ e ∈ l, Region.binds .any e = true ∧ (i = e.on ∨ (acc.getD e.on 0).testBit i = true)
  | [], s, h => Or.inl h
  | e :: l, s, h => by
    simp only [List.foldl_cons] at h
    rcases fold_bits acc i l _ h with h1 | ⟨e', he', r⟩
    · split at h1
      · rename_i hb
        rw [Nat.testBit_or, Nat.testBit_or, Bool.or_eq_true, Bool.or_eq_true] at h1
        rcases h1 with (h1 | h1) | h1
        · exact Or.inl h1
        · rw [Nat.testBit_two_pow] at h1
          exact Or.inr ⟨e, by simp, hb, Or.inl (by have := of_decide_eq_true h1; omega)⟩
        · exact Or.inr ⟨e, by simp, hb, Or.inr h1⟩
      · exact Or.inl h1
    · exact Or.inr ⟨e', by simp [he'], r⟩
/-- The bits of 'before' are what the edges reach. -/
theorem before_get (ops : Array Oper) (hE : ∀ j o, ops[j]? = some o → ∀ e ∈ o.after, Region.binds .any e = true → e.on < j) :
    ∀ (j : Nat) (o : Oper), ops[j]? = some o → ∀ i, tb ops i j = true → ∃ e ∈ o.after, Region.binds .any e = true ∧ (i = e.on ∨ tb ops i e.on = true) := by
  intro j o ho i hi
  have hb : Region.before ops = goB ops.toList #[] := by
    unfold Region.before goB
    rw [← Array.foldl_toList]
    rfl
  obtain ⟨acc', h1, h2⟩ := goB_new ops.toList #[] j o (by simpa using ho)
  simp only [List.size_toArray, List.length_nil, Nat.zero_add] at h1 h2
  unfold tb at hi ⊢
  rw [hb] at hi ⊢
  rw [h2] at hi
  unfold stepB at hi
  rw [← Array.foldl_toList] at hi
  rcases fold_bits acc' i o.after.toList 0 hi with h | ⟨e, he, hbn, h⟩
  · simp at h
  · have he' : e ∈ o.after := by simpa using he
    refine ⟨e, he', hbn, ?_⟩
    rcases h with h | h
    · exact Or.inl h
    · rw [h1 e.on (hE j o ho e he' hbn)] at h
      exact Or.inr h
theorem goB_size : ∀ (l : List Oper) (acc : Array Nat), (goB l acc).size = acc.size + l.length
  | [], _ => rfl
  | o :: l, acc => by
    show (goB l (acc.push (stepB acc o))).size = _
    rw [goB_size l]; simp; omega
theorem before_out (ops : Array Oper) (i : Nat) (h : ops.size ≤ i) : (Region.before ops).getD i 0 = 0 := by
  have hb : Region.before ops = goB ops.toList #[] := by
    unfold Region.before goB
    rw [← Array.foldl_toList]
    rfl
  have hs : (Region.before ops).size = ops.size := by rw [hb, goB_size]; simp
  rw [Array.getD_eq_getD_getElem?, Array.getElem?_eq_none (by omega)]; rfl
theorem before_closed (ops : Array Oper) (hE : ∀ j o, ops[j]? = some o → ∀ e ∈ o.after, Region.binds .any e = true → e.on < j) (D : Nat → Prop)
    (hD : ∀ j o, ops[j]? = some o → D j → ∀ e ∈ o.after, Region.binds .any e = true → D e.on) :
    ∀ (j : Nat) (o : Oper), ops[j]? = some o → (∀ e ∈ o.after, Region.binds .any e = true → D e.on) → ∀ i, tb ops i j = true → D i := by
  intro j
  induction j using Nat.strongRecOn with
  | _ j ih =>
    intro o ho hpre i hi
    obtain ⟨e, he, hb, h | h⟩ := before_get ops hE j o ho i hi
    · rw [h]; exact hpre e he hb
    · have hlt := hE j o ho e he hb
      cases hq : ops[e.on]? with
      | none =>
        have : ops.size ≤ e.on := by
          rcases Nat.lt_or_ge e.on ops.size with h1 | h1
          · rw [Array.getElem?_eq_getElem h1] at hq; cases hq
          · exact h1
        have hj : j < ops.size := by
          rcases Nat.lt_or_ge j ops.size with h1 | h1
          · exact h1
          · rw [Array.getElem?_eq_none h1] at ho; cases ho
        omega
      | some o' => exact ih e.on hlt o' hq (fun e' he' hb' => hD e.on o' hq (hpre e he hb) e' he' hb') i h
end
end Go.Ev
