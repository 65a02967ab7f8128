/-
  A verified evaluator of the model's code, part F0 (own work): no condition; the theorem 'sound' of its last part is what a claim uses.
-/
import Derived.Test.YtedjimkpmmacoaaGreatDoorEvE
namespace Go.Ev
set_option linter.all false
set_option linter.unusedVariables false
set_option linter.unusedSimpArgs false
set_option linter.unusedSectionVars false
set_option linter.unnecessarySimpa false
open Go Go.RowKit
variable [Tok]
/-! values held against each other -/
mutual
def veq : Value → Value → Bool
  | .bool a, .bool b => a == b
  | .int k a, .int j b => k == j && a == b
  | .string a, .string b => a.data.toList == b.data.toList
  | .pointer none, .pointer none => true
  | .pointer (some a), .pointer (some b) => Nat.beq a.block b.block && Nat.beq a.off b.off && a.spot == b.spot
  | .slice none l c, .slice none m d => Nat.beq l m && Nat.beq c d
  | .slice (some a) l c, .slice (some b) m d => Nat.beq a.block b.block && Nat.beq a.off b.off && a.spot == b.spot && Nat.beq l m && Nat.beq c d
  | .nilFunc, .nilFunc => true
  | .nilIface, .nilIface => true
  | .iface t a, .iface u b => Nat.beq t u && veq a b
  | .func (.func f) ⟨a⟩ ⟨b⟩, .func (.func g) ⟨c⟩ ⟨d⟩ => Nat.beq f g && veqL a c && veqL b d
  | .agg ⟨a⟩, .agg ⟨b⟩ => veqL a b
  | .tuple ⟨a⟩, .tuple ⟨b⟩ => veqL a b
  | .complex k a b, .complex j c d => decide (k = j) && Nat.beq a c && Nat.beq b d
  | .float k a, .float j b => decide (k = j) && Nat.beq a b
  | .map none, .map none => true
  | .map (some a), .map (some b) => Nat.beq a b
  | _, _ => false
def veqL : List Value → List Value → Bool
  | [], [] => true
  | a :: l, b :: m => veq a b && veqL l m
  | _, _ => false
end
mutual
theorem veq_spec : ∀ x y : Value, veq x y = true → x = y := by
  intro x y h
  unfold veq at h
  split at h
  · simp at h; rw [h]
  · simp at h; rw [h.1, h.2]
  · simp at h
    rename_i a b
    congr 1
    exact ByteArray.ext h
  · rfl
  · rename_i a b
    simp at h
    obtain ⟨⟨h1, h2⟩, h3⟩ := h
    cases a; cases b; simp_all
  · simp at h; rw [h.1, h.2]
  · rename_i a l c b m d
    simp at h
    obtain ⟨⟨⟨⟨h1, h2⟩, h3⟩, h4⟩, h5⟩ := h
    cases a; cases b; simp_all
  · rfl
  · rfl
  · rename_i t a u b
    simp at h
    rw [h.1, veq_spec a b h.2]
  · rename_i f a b g c d
    simp at h
    rw [h.1.1, veqL_spec a c h.1.2, veqL_spec b d h.2]
  · rename_i a b
    rw [veqL_spec a b h]
  · rename_i a b
    rw [veqL_spec a b h]
  · simp at h; rw [h.1.1, h.1.2, h.2]
  · simp at h; rw [h.1, h.2]
  · rfl
  · simp at h; rw [h]
  · cases h
theorem veqL_spec : ∀ l m : List Value, veqL l m = true → l = m := by
  intro l m h
  unfold veqL at h
  split at h
  · rfl
  · rename_i a l b m
    simp at h
    rw [veq_spec a b h.1, veqL_spec l m h.2]
  · cases h
end
/-! what is known of tokens: operations on them, as rows -/
class Sym where
  bin : BinOp → Value → Value → Option Value
  un : UnOp → Value → Option Value
  conv : TypeId → TypeId → Value → Option Value
  len : Value → Option Value
def isTk : Value → Bool
  | .complex _ _ _ => true
  | .float _ _ => true
  | _ => false
structure SymOk [Sym] (P : Program) : Prop where
  bin : ∀ op x y v, Sym.bin op x y = some v → Wf 0 v ∧ ∀ γ w t, (binOp op t (ren γ x) (ren γ y)).run P w = .ok (ren γ v) w
  un : ∀ op x v, Sym.un op x = some v → Wf 0 v ∧ ∀ γ w, (Op.unary op (ren γ x)).run P w = .ok (ren γ v) w
  conv : ∀ a b x v, Sym.conv a b x = some v → Wf 0 v ∧ ∀ γ w, (convert a b (ren γ x)).run P w = .ok (ren γ v) w
  len : ∀ k i v, Sym.len (.float k i) = some v → Wf 0 v ∧ ∀ γ, ren γ v = goInt (Tok.str i).size
@[reducible] def noSym : Sym := ⟨fun _ _ _ => none, fun _ _ => none, fun _ _ _ => none, fun _ => none⟩
theorem noSym_ok (P : Program) : @SymOk _ noSym P :=
  @SymOk.mk _ noSym P (fun _ _ _ _ h => by cases h) (fun _ _ _ h => by cases h) (fun _ _ _ _ h => by cases h) (fun _ _ _ h => by cases h)
variable [Sym]
/-! maps -/
section
variable {P : Program} {B : Nat → Prop} {γ : Gh} {s : St} {w : World}

noncomputable def St.setM (s : St) (i : Nat) (o : MO) : St := ⟨s.n, s.hp, Tr.set deadM o i s.mp⟩
noncomputable def St.mkM (s : St) : St := ⟨s.n + 1, s.hp, Tr.set deadM ⟨true, [], 0⟩ s.n s.mp⟩
theorem setM_mob (s : St) (i : Nat) (o : MO) (j : Nat) : (s.setM i o).mob j = if j = i then o else s.mob j := Tr.get_set _ _ _ _ _
theorem mkM_mob (s : St) (j : Nat) : s.mkM.mob j = if j = s.n then ⟨true, [], 0⟩ else s.mob j := Tr.get_set _ _ _ _ _

def sameNow' (kd : TypeDesc) (a b : Value) : Option Bool := Instr.sameNow kd a b
theorem sameNow_ren {kd : TypeDesc} {a b : Value} {r : Bool} (h : Instr.sameNow kd a b = some r) : Instr.sameNow kd (ren γ a) (ren γ b) = some r ∧ flat a = true := by
  unfold Instr.sameNow at h
  split at h
  · exact ⟨by simpa [ren, Instr.sameNow] using h, rfl⟩
  · exact ⟨by simpa [ren, Instr.sameNow] using h, rfl⟩
  · exact ⟨by simpa [ren, Instr.sameNow] using h, rfl⟩
  · cases h
theorem findNow_ren {kd : TypeDesc} {k : Value} : ∀ (es : List MapEntry) (i : Nat) (r : Option (Nat × Value)), Instr.findNow kd k es i = some r →
    Instr.findNow kd (ren γ k) (es.map (renE γ)) i = some (r.map fun p => (p.1, ren γ p.2))
  | [], i, r, h => by
    simp only [Instr.findNow, Option.some.injEq] at h; subst h; rfl
  | e :: es, i, r, h => by
    simp only [Instr.findNow, List.map_cons] at h ⊢
    have hk : (renE γ e).key = ren γ e.key := rfl
    split at h
    · rename_i hs
      rw [hk, (sameNow_ren (γ := γ) hs).1]
      simp only [Option.some.injEq] at h; subst h; rfl
    · rename_i hs
      rw [hk, (sameNow_ren (γ := γ) hs).1]
      exact findNow_ren es (i + 1) r h
    · cases h

noncomputable def evAsk (P : Program) (kT : TypeId) (k : Value) : List MapEntry → Nat → Option (Option (Nat × Value))
  | [], _ => some none
  | e :: es, i => match evEqF P 8 kT k e.key with
    | some true => some (some (i, e.val))
    | some false => evAsk P kT k es (i + 1)
    | none => none
theorem evAsk_run {kT : TypeId} {k : Value} (hk : Wf s.n k) : ∀ (es : List MapEntry) (i : Nat) (r : Option (Nat × Value)), (∀ e ∈ es, Wf s.n e.key ∧ Wf s.n e.val) → evAsk P kT k es i = some r →
    (Instr.findAsking kT (ren γ k) (es.map (renE γ)) i).run P w = .ok (r.map fun p => (p.1, ren γ p.2)) w
  | [], i, r, _, h => by
    simp only [evAsk, Option.some.injEq] at h; subst h; rfl
  | e :: es, i, r, hw, h => by
    simp only [evAsk] at h
    have hq : ∀ b, evEqF P 8 kT k e.key = some b → (Op.equal kT (ren γ k) (ren γ e.key)).run P w = .ok b w := fun b hb =>
      evEqF_run (P := P) (γ := γ) (w := w) s.n 8 Op.maxDepth kT k e.key b (by decide) hk (hw e (by simp)).1 hb
    simp only [List.map_cons, Instr.findAsking]
    have hkey : (renE γ e).key = ren γ e.key := rfl
    split at h
    · rename_i hb
      simp only [Option.some.injEq] at h; subst h
      rw [Sem.run_bind, hkey, hq _ hb]
      rfl
    · rename_i hb
      rw [Sem.run_bind, hkey, hq _ hb]
      simp only [Result.andThen_ok, Bool.false_eq_true, if_false]
      exact evAsk_run hk es (i + 1) r (fun e he => hw e (by simp [he])) h
    · cases h

def isAggV : Value → Bool
  | .agg _ => true
  | _ => false
noncomputable def evFind (P : Program) (kT : TypeId) (k : Value) (es : List MapEntry) : Option (Option (Nat × Value)) :=
  match P.underlying kT with
  | some kd => match Instr.findNow kd k es 0 with
    | some r => some r
    | none => if isAggV k = true then evAsk P kT k es 0 else none
  | none => none
theorem sameNow_agg (kd : TypeDesc) (c : Array Value) (x : Value) : Instr.sameNow kd (.agg c) x = none := by
  unfold Instr.sameNow; split <;> first | rfl | simp_all
theorem findNow_agg {kd : TypeDesc} {k : Value} (hk : isAggV k = true) (e : MapEntry) (es : List MapEntry) (i : Nat) : Instr.findNow kd (ren γ k) (e :: es) i = none := by
  cases k <;> simp [isAggV] at hk
  rw [ren_agg]
  simp only [Instr.findNow, sameNow_agg]
theorem evFind_run {kT : TypeId} {k : Value} (hk : Wf s.n k) {es : List MapEntry} {r : Option (Nat × Value)} (hw : ∀ e ∈ es, Wf s.n e.key ∧ Wf s.n e.val) (h : evFind P kT k es = some r) :
    (Instr.findKey kT (ren γ k) (es.map (renE γ))).run P w = .ok (r.map fun p => (p.1, ren γ p.2)) w := by
  unfold evFind at h
  split at h
  · rename_i kd hu
    unfold Instr.findKey
    rw [Sem.run_bind, run_underlying hu, Result.andThen_ok]
    split at h
    · rename_i r' hf
      simp only [Option.some.injEq] at h; subst h
      rw [findNow_ren es 0 _ hf]
      rfl
    · rename_i hf
      split at h
      · rename_i ha
        cases es with
        | nil => simp [Instr.findNow] at hf
        | cons e es =>
          rw [List.map_cons, findNow_agg ha]
          rw [← List.map_cons]
          exact evAsk_run hk _ 0 r hw h
      · cases h
  · cases h
theorem findNow_wf {n : Nat} {kd : TypeDesc} {k : Value} : ∀ (es : List MapEntry) (i j : Nat) (v : Value), (∀ e ∈ es, Wf n e.key ∧ Wf n e.val) → Instr.findNow kd k es i = some (some (j, v)) → Wf n v
  | [], i, j, v, _, h => by simp [Instr.findNow] at h
  | e :: es, i, j, v, hw, h => by
    simp only [Instr.findNow] at h
    split at h
    · simp only [Option.some.injEq, Prod.mk.injEq] at h; rw [← h.2]; exact (hw e (by simp)).2
    · exact findNow_wf es (i + 1) j v (fun e he => hw e (by simp [he])) h
    · cases h
theorem evAsk_wf {n : Nat} {kT : TypeId} {k : Value} : ∀ (es : List MapEntry) (i j : Nat) (v : Value), (∀ e ∈ es, Wf n e.key ∧ Wf n e.val) → evAsk P kT k es i = some (some (j, v)) → Wf n v
  | [], i, j, v, _, h => by simp [evAsk] at h
  | e :: es, i, j, v, hw, h => by
    simp only [evAsk] at h
    split at h
    · simp only [Option.some.injEq, Prod.mk.injEq] at h; rw [← h.2]; exact (hw e (by simp)).2
    · exact evAsk_wf es (i + 1) j v (fun e he => hw e (by simp [he])) h
    · cases h
theorem evFind_wf {n : Nat} {kT : TypeId} {k : Value} {es : List MapEntry} {j : Nat} {v : Value} (hw : ∀ e ∈ es, Wf n e.key ∧ Wf n e.val) (h : evFind P kT k es = some (some (j, v))) : Wf n v := by
  unfold evFind at h
  split at h
  · split at h
    · rename_i r hf
      simp only [Option.some.injEq] at h; subst h
      exact findNow_wf es 0 j v hw hf
    · split at h
      · exact evAsk_wf es 0 j v hw h
      · cases h
  · cases h

noncomputable def evCheck (P : Program) : Nat → TypeId → Value → Bool
  | 0, _, _ => false
  | n + 1, t, v => match P.underlying t, v with
    | some (.struct fields), .agg cs => fields.toList.all fun f => f.name == "_" || (match evPart P f.type cs f.offset with | some x => evCheck P n f.type x | none => false)
    | some (.interface _), _ => false
    | some (.array _ _), _ => false
    | some (.struct _), _ => false
    | some _, _ => true
    | none, _ => false
theorem evCheck_run {e : Bool} : ∀ (f n d : Nat) (t : TypeId) (v : Value), f ≤ d → Wf n v → evCheck P f t v = true → (Instr.checkKey e d t (ren γ v)).run P w = .ok () w
  | 0, _, _, _, _, _, _, h => by cases h
  | f + 1, n, d, t, v, hd, hv, h => by
    obtain ⟨d, rfl⟩ : ∃ k, d = k + 1 := ⟨d - 1, by omega⟩
    cases hu : P.underlying t with
    | none => simp [evCheck, hu] at h
    | some d' =>
      cases d' with
      | struct fields =>
        cases v with
        | agg cs =>
          simp only [evCheck, hu] at h
          rw [ren_agg]
          unfold Instr.checkKey
          simp only [Sem.run_bind, run_underlying hu, Result.andThen_ok]
          have key : ∀ (fs : List Field), (fs.all fun f' => f'.name == "_" || (match evPart P f'.type cs f'.offset with | some x => evCheck P f f'.type x | none => false)) = true →
              (forIn fs PUnit.unit (fun f' (_ : PUnit) => (if f'.name ≠ "_" then do
                let x ← part f'.type (cs.map (ren γ)) f'.offset
                Instr.checkKey e d f'.type x
                pure (ForInStep.yield PUnit.unit) else pure (ForInStep.yield PUnit.unit) : Sem (ForInStep PUnit)))).run P w = .ok PUnit.unit w := by
            intro fs
            induction fs with
            | nil => intro _; rfl
            | cons f' fs ih =>
              intro hall
              simp only [List.all_cons, Bool.and_eq_true] at hall
              obtain ⟨h1, h2⟩ := hall
              rw [List.forIn_cons]
              by_cases hn : f'.name = "_"
              · simp only [hn, ne_eq, not_true_eq_false, if_false, Sem.run_bind, Sem.run_pure, Result.andThen_ok]
                exact ih h2
              · have hn' : (f'.name == "_") = false := by simpa using hn
                rw [hn', Bool.false_or] at h1
                split at h1
                · rename_i x hx
                  obtain ⟨hr, hwx⟩ := evPart_run (s := ⟨n, .leaf, .leaf⟩) (P := P) (γ := γ) (w := w) ((Wf_agg _ _).1 hv) hx
                  have := evCheck_run (e := e) f n d f'.type x (by omega) hwx h1
                  simp only [ne_eq, hn, not_false_eq_true, if_true, Sem.run_bind, hr, Result.andThen_ok, this, Sem.run_pure]
                  exact ih h2
                · cases h1
          have := key fields.toList h
          rw [← Array.forIn_toList, this]
          rfl
        | _ => simp [evCheck, hu] at h
      | interface ms => simp [evCheck, hu] at h
      | array n e => simp [evCheck, hu] at h
      | _ =>
        unfold Instr.checkKey
        simp only [Sem.run_bind, run_underlying hu, Result.andThen_ok]
        first | rfl | (cases v <;> rfl)
end
/-! maps: what is done with them -/
section
variable {P : Program} {B : Nat → Prop} {γ : Gh} {s : St} {w : World}

theorem R.mkM (h : R B γ s w) : R B (γ.put s.n w.heap.size 0 0) s.mkM (w.alloc (.map #[] 0)) := by
  have hx := Ext.put γ s.n w.heap.size 0 0
  have hob : ∀ i, s.mkM.obj i = s.obj i := fun _ => rfl
  have hn : s.mkM.n = s.n + 1 := rfl
  refine ⟨fun i hi => Nat.lt_succ_of_lt (h.lt i hi), fun i hi => ?_, fun i hi k hk => Wf.mono (Nat.le_succ _) _ (h.wf i hi k hk), fun i hi ho => ?_, fun i j hi hj hij => ?_, fun i hi => ?_, fun k hk => Nat.lt_of_lt_of_le (h.bnd k hk) (by simp), ?_⟩
  · rw [hob] at hi ⊢
    have hi' := h.lt i hi
    rw [hx.blk i hi', hx.off i hi', hx.ext i hi', Below.heap_alloc _ _ _ (h.blk_lt hi)]
    obtain ⟨c, fz, q1, q2, q3, q4⟩ := h.obj i hi
    exact ⟨c, fz, q1, q2, q3, fun k hk => by rw [q4 k hk, ren_ext hx _ (h.wf i hi k hk)]⟩
  · rw [hx.ext i (h.lt i hi), hx.off i (h.lt i hi)]; exact h.cl i hi ho
  · rw [hx.blk i (h.lt i hi), hx.blk j (h.lt j hj)] at hij; exact h.inj i j hi hj hij
  · rw [hx.blk i (h.lt i hi)]; exact h.low i hi
  · have hm := h.m
    have hcase : ∀ i, (s.mkM.mob i).live = true → i = s.n ∨ (i < s.n ∧ (s.mob i).live = true ∧ s.mkM.mob i = s.mob i) := by
      intro i hi
      rw [mkM_mob] at hi ⊢
      split at hi
      · rename_i he; exact Or.inl he
      · rename_i hne
        exact Or.inr ⟨hm.lt i hi, hi, by rw [if_neg hne]⟩
    have gb : (γ.put s.n w.heap.size 0 0).blk s.n = w.heap.size := by simp [Gh.put]
    have hnew : s.mkM.mob s.n = ⟨true, [], 0⟩ := by rw [mkM_mob, if_pos rfl]
    refine ⟨fun i hi => ?_, fun i hi => ?_, fun i hi e he => ?_, fun i j hi hj hij => ?_, fun i hi => ?_⟩
    · rw [hn]; rcases hcase i hi with rfl | ⟨h1, _⟩ <;> omega
    · rcases hcase i hi with rfl | ⟨h1, h2, h3⟩
      · rw [gb, hnew]
        show (w.heap.push _)[w.heap.size]? = _
        simp
      · rw [h3, hx.blk i h1, Below.heap_alloc _ _ _ (h.mblk_lt h2), hm.obj i h2]
        congr 3
        exact List.map_congr_left fun e he => (renE_ext hx e (hm.wf i h2 e he).1 (hm.wf i h2 e he).2).symm
    · rcases hcase i hi with rfl | ⟨h1, h2, h3⟩
      · rw [hnew] at he; cases he
      · rw [h3] at he
        exact ⟨Wf.mono (Nat.le_succ _) _ (hm.wf i h2 e he).1, Wf.mono (Nat.le_succ _) _ (hm.wf i h2 e he).2⟩
    · rcases hcase i hi with rfl | ⟨h1, h2, h3⟩
      · rcases hcase j hj with rfl | ⟨k1, k2, k3⟩
        · rfl
        · rw [gb, hx.blk j k1] at hij; have := h.mblk_lt k2; omega
      · rcases hcase j hj with rfl | ⟨k1, k2, k3⟩
        · rw [gb, hx.blk i h1] at hij; have := h.mblk_lt h2; omega
        · rw [hx.blk i h1, hx.blk j k1] at hij; exact hm.inj i j h2 k2 hij
    · rcases hcase i hi with rfl | ⟨h1, h2, h3⟩
      · rw [gb]; exact fun hq => Nat.lt_irrefl _ (h.bnd _ hq)
      · rw [hx.blk i h1]; exact hm.low i h2

theorem R.setM (h : R B γ s w) {i : Nat} (hl : (s.mob i).live = true) {es : List MapEntry} {c : Nat} (hwf : ∀ e ∈ es, Wf s.n e.key ∧ Wf s.n e.val) :
    ∃ w', (setObj (γ.blk i) (.map (es.map (renE γ)).toArray c)).run P w = .ok () w' ∧ R B γ (s.setM i ⟨true, es, c⟩) w' ∧ Fr B w w' := by
  have hb := h.m.obj i hl
  have hlt := h.mblk_lt hl
  refine ⟨{ w with heap := w.heap.setIfInBounds (γ.blk i) (.map (es.map (renE γ)).toArray c) }, by simp [setObj, Sem.run, hb], ?_, ?_⟩
  · have hoth : ∀ k, k ≠ γ.blk i → (w.heap.setIfInBounds (γ.blk i) (.map (es.map (renE γ)).toArray c))[k]? = w.heap[k]? := fun k hk => Array.getElem?_setIfInBounds_ne (Ne.symm hk)
    have hob : ∀ j, (s.setM i ⟨true, es, c⟩).obj j = s.obj j := fun _ => rfl
    refine ⟨h.lt, fun j hj => ?_, h.wf, h.cl, h.inj, h.low, by simpa using h.bnd, ?_⟩
    · rw [hob] at hj ⊢
      obtain ⟨c', fz, q⟩ := h.obj j hj
      refine ⟨c', fz, ?_, q.2⟩
      show (w.heap.setIfInBounds _ _)[_]? = _
      rw [hoth]
      · exact q.1
      · intro e; rw [e, hb] at q; cases q.1
    · have hm := h.m
      have hl' : ∀ j, ((s.setM i ⟨true, es, c⟩).mob j).live = true → (s.mob j).live = true := by
        intro j hj; rw [setM_mob] at hj; split at hj
        · rename_i e; rw [e]; exact hl
        · exact hj
      refine ⟨fun j hj => hm.lt j (hl' j hj), fun j hj => ?_, fun j hj e he => ?_, fun j k hj hk => hm.inj j k (hl' j hj) (hl' k hk), fun j hj => hm.low j (hl' j hj)⟩
      · show (w.heap.setIfInBounds _ _)[_]? = _
        rw [setM_mob]
        by_cases e : j = i
        · subst e
          rw [if_pos rfl]
          simp [hlt]
        · rw [if_neg e, hoth _ (fun e' => e (hm.inj j i (hl' j hj) hl e'))]
          exact hm.obj j (hl' j hj)
      · rw [setM_mob] at he
        split at he
        · exact hwf e he
        · exact hm.wf j (hl' j hj) e he
  · refine ⟨rfl, rfl, rfl, by simp, fun k hk => ?_⟩
    show (w.heap.setIfInBounds _ _)[_]? = _
    exact Array.getElem?_setIfInBounds_ne (fun (e : γ.blk i = k) => h.m.low i hl (by rw [e]; exact hk))

noncomputable def evMakeMap (s : St) : Option (Value × St) := some (.map (some s.n), s.mkM)
theorem evMakeMap_sim (hR : R B γ s w) {t : TypeId} {v : Value} {s' : St} (he : evMakeMap s = some (v, s')) : Sim P B γ s w (Instr.makeMap t none) v s' := by
  unfold evMakeMap at he
  injection he with he; injection he with h1 h2; subst h1 h2
  refine ⟨γ.put s.n w.heap.size 0 0, w.alloc (.map #[] 0), ?_, Ext.put _ _ _ _ _, hR.mkM, Nat.lt_succ_self _, Fr.alloc' _ _ hR.bnd _, Nat.le_succ _⟩
  simp [Instr.makeMap, ren, Gh.put]

/-- The entries of a map, nil or made. -/
noncomputable def entsOf (s : St) (x : Value) : Option (List MapEntry) :=
  match x with
  | .map none => some []
  | .map (some i) => if (s.mob i).live = true then some (s.mob i).ents else none
  | _ => none
theorem entsOf_wf (hR : R B γ s w) {x : Value} {es : List MapEntry} (h : entsOf s x = some es) : ∀ e ∈ es, Wf s.n e.key ∧ Wf s.n e.val := by
  unfold entsOf at h
  split at h
  · injection h with h; subst h; simp
  · split at h
    · rename_i hl; injection h with h; subst h; exact hR.m.wf _ hl
    · cases h
  · cases h

noncomputable def evLookup (P : Program) (s : St) (t : TypeId) (x k : Value) (ok : Bool) : Option Value :=
  match P.underlying t, entsOf s x with
  | some (.map kT eT), some es =>
    if evCheck P 8 kT k = true then
      match evFind P kT k es with
      | some (some (_, v)) => some (if ok = true then .tuple #[v, .bool true] else v)
      | some none => match tz P eT with
        | some z => if flat z = true then some (if ok = true then .tuple #[z, .bool false] else z) else none
        | none => none
      | none => none
    else none
  | _, _ => none
def lkTail (kT eT : TypeId) (k : Value) (ok : Bool) (es : Array MapEntry) : Sem Value := do
  Instr.checkKey es.isEmpty 10000 kT k
  let (v, ok') ← match ← Instr.findKey kT k es.toList with
    | some (_, v) => pure (v, true)
    | none => pure (← zeroValue eT, false)
  pure (if ok then .tuple #[v, .bool ok'] else v)
theorem lookup_none {t kT eT : TypeId} {k : Value} {ok : Bool} (hu : P.underlying t = some (.map kT eT)) : (Instr.lookup t (.map none) k ok).run P w = (lkTail kT eT k ok #[]).run P w := by
  unfold Instr.lookup
  rw [Sem.run_bind, run_underlying hu]
  rfl
theorem lookup_some {t kT eT : TypeId} {k : Value} {ok : Bool} {r : Nat} {es : Array MapEntry} {c : Nat} (hu : P.underlying t = some (.map kT eT)) (hb : w.heap[r]? = some (.map es c)) :
    (Instr.lookup t (.map (some r)) k ok).run P w = (lkTail kT eT k ok es).run P w := by
  have hg : (getObj r).run P w = .ok (.map es c) w := by simp [getObj, Sem.run, hb]
  unfold Instr.lookup
  rw [Sem.run_bind, run_underlying hu]
  simp only [Result.andThen_ok, Sem.run_bind, hg, Sem.run_pure]
  unfold lkTail
  simp only [Sem.run_bind]
  congr 1
theorem evLookup_run (hR : R B γ s w) {t : TypeId} {x k v : Value} {ok : Bool} (hk : Wf s.n k) (he : evLookup P s t x k ok = some v) :
    (Instr.lookup t (ren γ x) (ren γ k) ok).run P w = .ok (ren γ v) w ∧ Wf s.n v := by
  unfold evLookup at he
  split at he
  case h_2 => cases he
  rename_i kT eT es hu hes
  split at he
  case isFalse => cases he
  rename_i hck
  have hwe := entsOf_wf hR hes
  have hget : (Instr.lookup t (ren γ x) (ren γ k) ok).run P w = (lkTail kT eT (ren γ k) ok (es.map (renE γ)).toArray).run P w := by
    unfold entsOf at hes
    split at hes
    · injection hes with hes; subst hes; exact lookup_none hu
    · rename_i i
      split at hes
      · rename_i hl
        injection hes with hes; subst hes
        exact lookup_some hu (hR.m.obj i hl)
      · cases hes
    · cases hes
  rw [hget]
  have hch := evCheck_run (P := P) (γ := γ) (w := w) (e := ((es.map (renE γ)).toArray).isEmpty) 8 s.n 10000 kT k (by decide) hk hck
  unfold lkTail
  simp only [Sem.run_bind, hch, Result.andThen_ok]
  split at he
  · rename_i j u hf
    have hr := evFind_run (P := P) (γ := γ) (w := w) hk hwe hf
    have hwu := evFind_wf hwe hf
    injection he with he; subst he
    rw [hr]
    cases ok
    · exact ⟨rfl, hwu⟩
    · refine ⟨?_, (Wf_tuple _ _).2 (fun y hy => ?_)⟩
      · rw [if_pos rfl, ren_tuple]
        simp [ren]
      · have hy' : y = u ∨ y = .bool true := by simpa using hy
        rcases hy' with rfl | rfl
        · exact hwu
        · trivial
  · rename_i hf
    have hr := evFind_run (P := P) (γ := γ) (w := w) hk hwe hf
    split at he
    · rename_i z hz
      split at he
      · rename_i hfl
        injection he with he; subst he
        rw [hr]
        have hzr : ren γ z = z := flat_ren γ hfl
        have hzw : Wf s.n z := flat_wf s.n hfl
        simp only [Option.map_none, Result.andThen_ok, Sem.run_bind, run_tz hz, Sem.run_pure]
        cases ok
        · exact ⟨by simp [hzr], hzw⟩
        · refine ⟨?_, (Wf_tuple _ _).2 (fun y hy => ?_)⟩
          · show Result.ok (Value.tuple #[z, .bool false]) w = Result.ok (ren γ (.tuple #[z, .bool false])) w
            rw [ren_tuple]
            have hb : ren γ (.bool false) = .bool false := rfl
            simp [hzr, hb]
          · have hy' : y = z ∨ y = .bool false := by simpa using hy
            rcases hy' with rfl | rfl
            · exact hzw
            · trivial
      · cases he
    · cases he
  · cases he

noncomputable def evMapUpdate (P : Program) (s : St) (t : TypeId) (x k v : Value) : Option St :=
  match P.underlying t, x with
  | some (.map kT _), .map (some i) =>
    if (s.mob i).live = true ∧ evCheck P 8 kT k = true ∧ flat k = true then
      match evFind P kT k (s.mob i).ents with
      | some (some (j, _)) => match (s.mob i).ents[j]? with
        | some e => if flat e.key = true ∧ Instr.sameBits 10000 e.key k = true then some (s.setM i ⟨true, (s.mob i).ents.set j ⟨k, v, e.born⟩, (s.mob i).clock⟩) else none
        | none => none
      | some none => some (s.setM i ⟨true, (s.mob i).ents ++ [⟨k, v, (s.mob i).clock⟩], (s.mob i).clock + 1⟩)
      | none => none
    else none
  | _, _ => none
theorem evMapUpdate_run (hR : R B γ s w) {t : TypeId} {x k v : Value} {s' : St} (hk : Wf s.n k) (hv : Wf s.n v) (he : evMapUpdate P s t x k v = some s') :
    ∃ w', (Instr.mapUpdate t (ren γ x) (ren γ k) (ren γ v)).run P w = .ok () w' ∧ R B γ s' w' ∧ Fr B w w' ∧ s'.n = s.n := by
  unfold evMapUpdate at he
  split at he
  case h_2 => cases he
  rename_i kT eT i hu
  split at he
  case isFalse => cases he
  rename_i hc
  obtain ⟨hl, hck, hfl⟩ := hc
  have hwe := hR.m.wf i hl
  have hb := hR.m.obj i hl
  have hg : (getObj (γ.blk i)).run P w = .ok (.map ((s.mob i).ents.map (renE γ)).toArray (s.mob i).clock) w := by simp [getObj, Sem.run, hb]
  have hch := evCheck_run (P := P) (γ := γ) (w := w) (e := false) 8 s.n 10000 kT k (by decide) hk hck
  have hkr : ren γ k = k := flat_ren γ hfl
  unfold Instr.mapUpdate
  simp only [ren, Sem.run_bind, run_underlying hu, Result.andThen_ok, hg, hch]
  split at he
  · rename_i j u hf
    have hr := evFind_run (P := P) (γ := γ) (w := w) hk hwe hf
    split at he
    · rename_i e hj
      split at he
      · rename_i hsame
        obtain ⟨hfe, hsb⟩ := hsame
        injection he with he; subst he
        rw [hr]
        have her : ren γ e.key = e.key := flat_ren γ hfe
        have hje : ((s.mob i).ents.map (renE γ)).toArray[j]? = some (renE γ e) := by simp [hj]
        have hstay : (Instr.keyThatStays (ren γ e.key) (ren γ k)).run P w = .ok (ren γ k) w := by
          rw [her, hkr]; simp [Instr.keyThatStays, hsb]
        simp only [Option.map_some, Result.andThen_ok, Sem.run_bind, hje, Option.getD_some]
        rw [show (renE γ e).key = ren γ e.key from rfl, hstay]
        simp only [Result.andThen_ok]
        have hnew : (((s.mob i).ents.map (renE γ)).toArray.modify j fun e => { e with key := ren γ k, val := ren γ v }) = (((s.mob i).ents.set j ⟨k, v, e.born⟩).map (renE γ)).toArray := by
          apply Array.ext'
          rw [Array.toList_modify]
          apply List.ext_getElem?
          intro m
          rw [List.getElem?_modify, List.getElem?_map, List.getElem?_map, List.getElem?_set]
          have hlt : j < (s.mob i).ents.length := by
            rcases Nat.lt_or_ge j (s.mob i).ents.length with h | h
            · exact h
            · rw [List.getElem?_eq_none h] at hj; cases hj
          by_cases hm : j = m
          · subst hm
            simp only [if_true, hlt, hj, Option.map_some]
            rfl
          · simp [hm]
        rw [hnew]
        obtain ⟨w', h1, h2, h3⟩ := hR.setM (P := P) hl (es := (s.mob i).ents.set j ⟨k, v, e.born⟩) (c := (s.mob i).clock) (fun e' he' => by
          rcases List.mem_or_eq_of_mem_set he' with h | rfl
          · exact hwe e' h
          · exact ⟨hk, hv⟩)
        exact ⟨w', h1, h2, h3, rfl⟩
      · cases he
    · cases he
  · rename_i hf
    have hr := evFind_run (P := P) (γ := γ) (w := w) hk hwe hf
    injection he with he; subst he
    rw [hr]
    simp only [Option.map_none, Result.andThen_ok]
    have hnew : (((s.mob i).ents.map (renE γ)).toArray.push (MapEntry.mk (ren γ k) (ren γ v) (s.mob i).clock)) = (((s.mob i).ents ++ [MapEntry.mk k v (s.mob i).clock]).map (renE γ)).toArray := by
      apply Array.ext'; simp [renE]
    rw [hnew]
    obtain ⟨w', h1, h2, h3⟩ := hR.setM (P := P) hl (es := (s.mob i).ents ++ [⟨k, v, (s.mob i).clock⟩]) (c := (s.mob i).clock + 1) (fun e' he' => by
      rcases List.mem_append.1 he' with h | h
      · exact hwe e' h
      · have : e' = ⟨k, v, (s.mob i).clock⟩ := by simpa using h
        subst this; exact ⟨hk, hv⟩)
    exact ⟨w', h1, h2, h3, rfl⟩
  · cases he

noncomputable def evDelete (P : Program) (s : St) (t : TypeId) (x k : Value) : Option (Value × St) :=
  match P.underlying t, x with
  | some (.map kT _), .map (some i) =>
    if (s.mob i).live = true ∧ evCheck P 8 kT k = true then
      match evFind P kT k (s.mob i).ents with
      | some (some (j, _)) => some (.tuple #[], s.setM i ⟨true, (s.mob i).ents.eraseIdx j, (s.mob i).clock⟩)
      | some none => some (.tuple #[], s.setM i ⟨true, (s.mob i).ents, (s.mob i).clock⟩)
      | none => none
    else none
  | _, _ => none
theorem evDelete_sim (hR : R B γ s w) {argTypes : Array TypeId} {t ty : TypeId} {x k v : Value} {s' : St} (h0 : argTypes[0]? = some t) (hk : Wf s.n k)
    (he : evDelete P s t x k = some (v, s')) : Sim P B γ s w (Builtin.delete_ argTypes ty #[ren γ x, ren γ k]) v s' := by
  unfold evDelete at he
  split at he
  case h_2 => cases he
  rename_i kT eT i hu
  split at he
  case isFalse => cases he
  rename_i hc
  obtain ⟨hl, hck⟩ := hc
  have hwe := hR.m.wf i hl
  have hb := hR.m.obj i hl
  have hrt : ren γ (.tuple #[]) = .tuple #[] := by rw [ren_tuple]; simp
  have key : ∀ (A : Array MapEntry) (es : List MapEntry) (r : Option (Nat × Value)), A = ((s.mob i).ents.map (renE γ)).toArray → evFind P kT k (s.mob i).ents = some r → (match r with
      | some (j, _) => A.eraseIdxIfInBounds j
      | none => A) = (es.map (renE γ)).toArray → (∀ e ∈ es, Wf s.n e.key ∧ Wf s.n e.val) →
      Sim P B γ s w (Builtin.delete_ argTypes ty #[.map (some (γ.blk i)), ren γ k]) (.tuple #[]) (s.setM i ⟨true, es, (s.mob i).clock⟩) := by
    intro A es r hA hf hes hw'
    have hg : (getObj (γ.blk i)).run P w = .ok (.map A (s.mob i).clock) w := by simp [getObj, Sem.run, hb, hA]
    have hr := evFind_run (P := P) (γ := γ) (w := w) hk hwe hf
    have hr' : (Instr.findKey kT (ren γ k) A.toList).run P w = .ok (r.map fun p => (p.1, ren γ p.2)) w := by rw [hA]; exact hr
    have hch := evCheck_run (P := P) (γ := γ) (w := w) (e := A.isEmpty) 8 s.n 10000 kT k (by decide) hk hck
    obtain ⟨w', h1, h2, h3⟩ := hR.setM (P := P) hl (es := es) (c := (s.mob i).clock) hw'
    refine ⟨γ, w', ?_, Ext.refl _ _, h2, (Wf_tuple _ _).2 (by simp), h3, Nat.le_refl _⟩
    rw [← hes] at h1
    clear hA hes hb
    unfold Builtin.delete_
    rw [hrt]
    simp only [h0]
    cases r with
    | none => simp [run_underlying hu, hg, hch, hr', h1]
    | some p => obtain ⟨j, u⟩ := p; simp [run_underlying hu, hg, hch, hr', h1]
  split at he
  · rename_i j u hf
    injection he with he; injection he with h1 h2; subst h1 h2
    refine key _ _ _ rfl hf ?_ (fun e he => hwe e (List.mem_of_mem_eraseIdx he))
    simp only
    apply Array.ext'
    unfold Array.eraseIdxIfInBounds
    split
    · rw [Array.toList_eraseIdx]
      simp only
      apply List.ext_getElem?
      intro m
      simp only [List.getElem?_eraseIdx, List.getElem?_map]
      split <;> rfl
    · rename_i hsz
      have : (s.mob i).ents.length ≤ j := by simpa using hsz
      simp [List.eraseIdx_of_length_le this]
  · rename_i hf
    injection he with he; injection he with h1 h2; subst h1 h2
    exact key _ _ _ rfl hf rfl hwe
  · cases he

noncomputable def evLenM (P : Program) (s : St) (t : TypeId) (x : Value) : Option Value :=
  match P.underlying t with
  | some (.map _ _) => (entsOf s x).map fun es => goInt es.length
  | _ => none
theorem evLenM_run (hR : R B γ s w) {argTypes : Array TypeId} {t ty : TypeId} {x v : Value} (h0 : argTypes[0]? = some t) (he : evLenM P s t x = some v) :
    (Builtin.len_ argTypes ty #[ren γ x]).run P w = .ok (ren γ v) w ∧ Wf s.n v := by
  unfold evLenM at he
  split at he
  · rename_i kT eT hu
    unfold entsOf at he
    split at he
    · simp at he; subst he
      exact ⟨by simp [Builtin.len_, h0, run_underlying hu, ren, goInt], trivial⟩
    · rename_i i
      split at he
      · rename_i hl
        simp at he; subst he
        have hb := hR.m.obj i hl
        have hg : (getObj (γ.blk i)).run P w = .ok (.map ((s.mob i).ents.map (renE γ)).toArray (s.mob i).clock) w := by simp [getObj, Sem.run, hb]
        exact ⟨by simp [Builtin.len_, h0, run_underlying hu, ren, goInt, hg], trivial⟩
      · simp at he
    · simp at he
  · cases he
end
end Go.Ev
