/-
  A verified evaluator of the model's code, part G (own work): no condition; the theorem 'sound' of its last part is what a claim uses.
-/
import Derived.Test.YtedjimkpmmacoaaGreatDoorEvG1
namespace Go.Ev
set_option linter.all false
set_option linter.unusedVariables false
set_option linter.unusedSimpArgs false
set_option linter.unusedSectionVars false
set_option linter.unnecessarySimpa false
open Go Go.RowKit
variable [Tok] [Sym]
section
variable {P : Program} {B : Nat → Prop} {γ : Gh} {s : St} {w : World}

noncomputable def evOp (P : Program) (op : Op) (ρ : Operand → Value) (s : St) : OpR :=
  match op with
  | .move x => .val (ρ x) s
  | .assign x => .val (ρ x) s
  | .pick c a b => match ρ c with
    | .bool true => .val (ρ a) s
    | .bool false => .val (ρ b) s
    | _ => .err
  | .alloc e => valR (evAlloc P s e)
  | .box e x => valR (evBox s e (ρ x))
  | .build t ps => valP s (evBuild P t (ps.toList.map fun p => (p.1, ρ p.2)))
  | .buildSlice t n ps => valR (evBuildSlice P s t n (ps.toList.map fun p => (p.1, ρ p.2)))
  | .load t a => valP s (evLoad P s t (ρ a))
  | .store t a x => match evStore P s t (ρ a) (ρ x) with
    | some s' => .skip s'
    | none => .err
  | .nilCheck x => valP s (evNil (ρ x))
  | .binOp op t x y _ => if (isTk (ρ x) || isTk (ρ y)) = true then valP s (Sym.bin op (ρ x) (ρ y)) else valP s (evBin P op t (isConst x || isConst y) (ρ x) (ρ y))
  | .unOp op _ x => if isTk (ρ x) = true then valP s (Sym.un op (ρ x)) else valP s (evUn op (ρ x))
  | .convert src dst x => if isTk (ρ x) = true then valP s (Sym.conv src dst (ρ x)) else valR (evConv P s src dst (ρ x))
  | .makeInterface t x => valP s (evIface P t (ρ x))
  | .makeFunc fn f c => .val (.func fn (f.map ρ) (c.map ρ)) s
  | .makeSlice t l c => valR (evMakeSlice P s t (ρ l) (ρ c))
  | .slice t x lo hi none => valR (evSlice P s t (ρ x) (lo.map ρ) (hi.map ρ))
  | .slice t x lo (some hi) (some mx) => valR (evSlice3 P s t (ρ x) (lo.map ρ) (ρ hi) (ρ mx))
  | .fieldAddr t x f => valP s (evField P t (ρ x) f)
  | .field t x f => valP s (evFieldV P t (ρ x) f)
  | .indexAddr t x i => valP s (evIndexAddr P t (ρ x) (ρ i))
  | .index t x i => valP s (evIndex P t (ρ x) (ρ i))
  | .typeAssert x _ t ok => valP s (evAssert P t ok (ρ x))
  | .extract x i => valP s (evExtract (ρ x) i)
  | .makeMap _ none => valR (evMakeMap s)
  | .lookup t x k ok => valP s (evLookup P s t (ρ x) (ρ k) ok)
  | .mapUpdate t m k x => match evMapUpdate P s t (ρ m) (ρ k) (ρ x) with
    | some s' => .skip s'
    | none => .err
  | .call c => match c.callee with
    | .builtin b => evBuiltin P s b c.argTypes (c.args.toList.map ρ)
    | .value f => evCallV P s (ρ f) (c.args.toList.map ρ)
    | .invoke r name => evCallM P s (ρ r) name (c.args.toList.map ρ)
  | _ => .err

theorem evNil_spec {x v : Value} (h : evNil x = some v) : v = x ∧ ((∃ a, x = .pointer (some a)) ∨ (∃ f a b, x = .func (.func f) a b) ∨ ∃ t u, x = .iface t u) := by
  unfold evNil at h
  split at h <;> first | (injection h with h; subst h; simp; done) | cases h

theorem execOp_build (ρ' : Operand → Value) (t : TypeId) (ps : Array (Nat × Operand)) (dst : Option Tmp) (ty : TypeId) (pos : String) (aft : Array Edge) (gd : Option (Nat × Bool)) :
    execOp ρ' ⟨dst, .build t ps, ty, pos, aft, gd⟩ = (Instr.build t (ps.map fun p => (p.1, ρ' p.2)) >>= fun a => pure (.value a)) := rfl
theorem execOp_buildSlice (ρ' : Operand → Value) (t : TypeId) (n : Nat) (ps : Array (Nat × Operand)) (dst : Option Tmp) (ty : TypeId) (pos : String) (aft : Array Edge) (gd : Option (Nat × Bool)) :
    execOp ρ' ⟨dst, .buildSlice t n ps, ty, pos, aft, gd⟩ = (Instr.buildSlice t n (ps.map fun p => (p.1, ρ' p.2)) >>= fun a => pure (.value a)) := rfl
theorem map_parts {ps : Array (Nat × Operand)} {ρ ρ' : Operand → Value} (h : ∀ x ∈ (ps.toList.map (·.2)).toArray, ρ' x = ren γ (ρ x)) :
    (ps.map fun p => (p.1, ρ' p.2)) = (ps.map fun p => (p.1, ρ p.2)).map fun x => (x.1, ren γ x.2) := by
  rw [Array.map_map]
  apply Array.map_congr_left
  intro p hp
  have := h p.2 (by simp; exact ⟨p.1, hp⟩)
  simp [this]
theorem map_ops {cs : Array Operand} {ρ ρ' : Operand → Value} (h : ∀ x ∈ cs, ρ' x = ren γ (ρ x)) : cs.map ρ' = (cs.map ρ).map (ren γ) := by
  rw [Array.map_map]
  exact Array.map_congr_left fun x hx => h x hx
theorem map_opt {o : Option Operand} {ρ ρ' : Operand → Value} (h : ∀ x ∈ o.toArray, ρ' x = ren γ (ρ x)) : o.map ρ' = (o.map ρ).map (ren γ) := by
  cases o with
  | none => rfl
  | some x => simp [h x (by simp)]

theorem nil_sim (hR : R B γ s w) {x : Operand} {ρ ρ' : Operand → Value} (hρ : ρ' x = ren γ (ρ x)) (hw : Wf s.n (ρ x)) (r : Oper) :
    OpSim P B γ s w (execOp ρ' { r with op := .nilCheck x }) (valP s (evNil (ρ x))) := by
  have keep : ∀ v, Wf s.n v → OpSim P B γ s w (pure (.value (ren γ v))) (.val v s) := fun v hv => ⟨γ, w, rfl, Ext.refl _ _, hR, hv, Fr.refl _ _, Nat.le_refl _⟩
  cases hn : evNil (ρ x) with
  | none => trivial
  | some v =>
    obtain ⟨rfl, h⟩ := evNil_spec hn
    unfold execOp
    simp only [hρ]
    rcases h with ⟨a, h⟩ | ⟨f, a, b, h⟩ | ⟨t, u, h⟩
    · rw [h] at hw ⊢; exact keep _ hw
    · rw [h] at hw ⊢; rw [ren_func]; have := keep _ hw; rw [ren_func] at this; exact this
    · rw [h] at hw ⊢; exact keep _ hw
theorem OpSim_err {m : Sem Next} : OpSim P B γ s w m .err = True := rfl
theorem guard_tk {op : BinOp} {t : TypeId} {a b : Operand} {x y : Value} (h : (isTk x || isTk y) = true) : (eqGuard op t a b (ren γ x) (ren γ y)).run P w = .ok () w := by
  refine guardOk_run ?_
  cases x <;> first | rfl | (cases y <;> first | rfl | (simp [isTk] at h))
set_option maxHeartbeats 4000000 in
theorem evOp_sim (hs : SymOk P) (hR : R B γ s w) {o : Oper} {ρ ρ' : Operand → Value} (hρ : ∀ x ∈ o.op.operands, ρ' x = ren γ (ρ x)) (hw : ∀ x ∈ o.op.operands, Wf s.n (ρ x)) :
    OpSim P B γ s w (execOp ρ' o) (evOp P o.op ρ s) := by
  have keep : ∀ v, Wf s.n v → OpSim P B γ s w (pure (.value (ren γ v))) (.val v s) := fun v hv => ⟨γ, w, rfl, Ext.refl _ _, hR, hv, Fr.refl _ _, Nat.le_refl _⟩
  obtain ⟨dst, op, ty, pos, aft, gd⟩ := o
  simp only at hρ hw
  cases op <;> simp only [Op.operands] at hρ hw <;> simp only [evOp, OpSim_err]
  case move x => show OpSim P B γ s w (pure (.value (ρ' x))) _; rw [hρ x (by simp)]; exact keep _ (hw x (by simp))
  case assign x => show OpSim P B γ s w (pure (.value (ρ' x))) _; rw [hρ x (by simp)]; exact keep _ (hw x (by simp))
  case pick c a b =>
    show OpSim P B γ s w (do pure (.value (if ← asBool (ρ' c) then ρ' a else ρ' b))) _
    rw [hρ c (by simp), hρ a (by simp), hρ b (by simp)]
    split
    · rename_i hc; rw [hc]; exact keep _ (hw a (by simp))
    · rename_i hc; rw [hc]; exact keep _ (hw b (by simp))
    · trivial
  case alloc e =>
    show OpSim P B γ s w (do pure (.value (← Instr.alloc e true (.tuple #[])))) _
    exact OpSim.ofSim fun v s' he => evAlloc_sim hR he
  case box e x =>
    show OpSim P B γ s w (do pure (.value (← Instr.box e (ρ' x)))) _
    rw [hρ x (by simp)]; exact OpSim.ofSim fun v s' he => evBox_sim hR (hw x (by simp)) he
  case build t ps =>
    rw [execOp_build, map_parts hρ]
    have he2 : ∀ v, evBuild P t (ps.toList.map fun p => (p.1, ρ p.2)) = some v → evBuild P t (ps.map fun p => (p.1, ρ p.2)).toList = some v := fun v h => by rw [Array.toList_map]; exact h
    refine OpSim.ofRun hR fun v he => evBuild_run (t := t) (parts := ps.map fun p => (p.1, ρ p.2)) (v := v) (fun x hx => ?_) (he2 v he)
    obtain ⟨p, hp, rfl⟩ := Array.mem_map.1 hx
    exact hw p.2 (by simp; exact ⟨p.1, hp⟩)
  case buildSlice t n ps =>
    rw [execOp_buildSlice, map_parts hρ]
    have he2 : ∀ v s', evBuildSlice P s t n (ps.toList.map fun p => (p.1, ρ p.2)) = some (v, s') → evBuildSlice P s t n (ps.map fun p => (p.1, ρ p.2)).toList = some (v, s') := fun v s' h => by rw [Array.toList_map]; exact h
    refine OpSim.ofSim fun v s' he => evBuildSlice_sim (t := t) (len := n) (parts := ps.map fun p => (p.1, ρ p.2)) (v := v) (s' := s') hR (fun x hx => ?_) (he2 v s' he)
    obtain ⟨p, hp, rfl⟩ := Array.mem_map.1 hx
    exact hw p.2 (by simp; exact ⟨p.1, hp⟩)
  case load t a =>
    show OpSim P B γ s w (do pure (.value (← Instr.loadAt t (ρ' a)))) _
    rw [hρ a (by simp)]; exact OpSim.ofRun hR fun v he => evLoad_run hR he
  case store t a x =>
    show OpSim P B γ s w (do Instr.storeAt t (ρ' a) (ρ' x); pure .skip) _
    rw [hρ a (by simp), hρ x (by simp)]
    split
    · rename_i s' he
      obtain ⟨w', hr, hR', hb, hn⟩ := evStore_run (P := P) hR (hw x (by simp)) he
      exact ⟨w', by rw [Sem.run_bind, hr]; rfl, hR', hb, hn⟩
    · trivial
  case nilCheck x => exact nil_sim hR (hρ x (by simp)) (hw x (by simp)) ⟨dst, .nilCheck x, ty, pos, aft, gd⟩
  case binOp op t x y ty =>
    show OpSim P B γ s w ((do eqGuard op t x y (ρ' x) (ρ' y); binOp op t (ρ' x) (ρ' y) : Sem Value) >>= fun a => pure (.value a)) _
    rw [hρ x (by simp), hρ y (by simp)]
    split
    · rename_i htk
      exact OpSim.ofRun hR fun v he => ⟨by rw [Sem.run_bind, guard_tk htk]; exact (hs.bin _ _ _ _ he).2 γ w t, (hs.bin _ _ _ _ he).1.mono (Nat.zero_le _)⟩
    · exact OpSim.ofRun hR fun v he => evBin_run (hw x (by simp)) (hw y (by simp)) he
  case unOp op t x =>
    show OpSim P B γ s w (do pure (.value (← Op.unary op (ρ' x)))) _
    rw [hρ x (by simp)]
    split
    · exact OpSim.ofRun hR fun v he => ⟨(hs.un _ _ _ he).2 γ w, (hs.un _ _ _ he).1.mono (Nat.zero_le _)⟩
    · exact OpSim.ofRun hR fun v he => evUn_run he
  case convert a b x =>
    show OpSim P B γ s w (do pure (.value (← convert a b (ρ' x)))) _
    rw [hρ x (by simp)]
    split
    · exact OpSim.ofRun hR fun v he => ⟨(hs.conv _ _ _ _ he).2 γ w, (hs.conv _ _ _ _ he).1.mono (Nat.zero_le _)⟩
    · exact OpSim.ofSim fun v s' he => evConv_sim hR (hw x (by simp)) he
  case makeInterface t x =>
    show OpSim P B γ s w (do pure (.value (← Instr.makeInterface t (ρ' x)))) _
    rw [hρ x (by simp)]; exact OpSim.ofRun hR fun v he => evIface_run (hw x (by simp)) he
  case makeFunc fn f c =>
    show OpSim P B γ s w (do pure (.value (← Instr.makeFunc fn (f.map ρ') (c.map ρ')))) _
    rw [map_ops (cs := f) (fun x hx => hρ x (by simp [hx])), map_ops (cs := c) (fun x hx => hρ x (by simp [hx]))]
    refine ⟨γ, w, ?_, Ext.refl _ _, hR, ?_, Fr.refl _ _, Nat.le_refl _⟩
    · rw [ren_func]; rfl
    · rw [Wf_func]
      refine ⟨fun v hv => ?_, fun v hv => ?_⟩
      · obtain ⟨x, hx, rfl⟩ := Array.mem_map.1 hv; exact hw x (by simp [hx])
      · obtain ⟨x, hx, rfl⟩ := Array.mem_map.1 hv; exact hw x (by simp [hx])
  case makeSlice t l c =>
    show OpSim P B γ s w (do pure (.value (← Instr.makeSlice t (ρ' l) (ρ' c)))) _
    rw [hρ l (by simp), hρ c (by simp)]; exact OpSim.ofSim fun v s' he => evMakeSlice_sim hR he
  case slice t x lo hi mx =>
    cases mx with
    | some m =>
      cases hi with
      | none => simp only [OpSim_err]
      | some hi =>
        show OpSim P B γ s w (do pure (.value (← Instr.sliceAt t (ρ' x) (lo.map ρ') (some (ρ' hi)) (some (ρ' m))))) _
        rw [hρ x (by simp), map_opt (o := lo) (fun y hy => hρ y (by simp only [Array.mem_append]; simp [hy])), hρ hi (by simp), hρ m (by simp)]
        exact OpSim.ofSim fun v s' he => evSlice3_sim hR he
    | none =>
      show OpSim P B γ s w (do pure (.value (← Instr.sliceAt t (ρ' x) (lo.map ρ') (hi.map ρ') none))) _
      rw [hρ x (by simp), map_opt (o := lo) (fun y hy => hρ y (by simp only [Array.mem_append]; simp [hy])), map_opt (o := hi) (fun y hy => hρ y (by simp only [Array.mem_append]; simp [hy]))]
      exact OpSim.ofSim fun v s' he => evSlice_sim hR (hw x (by simp)) he
  case fieldAddr t x f =>
    show OpSim P B γ s w (do pure (.value (← Instr.fieldAt t (ρ' x) f))) _
    rw [hρ x (by simp)]; exact OpSim.ofRun hR fun v he => evField_run (hw x (by simp)) he
  case field t x f =>
    show OpSim P B γ s w (do pure (.value (← Instr.field t (ρ' x) f))) _
    rw [hρ x (by simp)]; exact OpSim.ofRun hR fun v he => evFieldV_run (hw x (by simp)) he
  case indexAddr t x i =>
    show OpSim P B γ s w (do pure (.value (← Instr.indexAt t (ρ' x) (ρ' i)))) _
    rw [hρ x (by simp), hρ i (by simp)]; exact OpSim.ofRun hR fun v he => evIndexAddr_run (hw x (by simp)) he
  case index t x i =>
    show OpSim P B γ s w (do pure (.value (← Instr.index t (ρ' x) (ρ' i)))) _
    rw [hρ x (by simp), hρ i (by simp)]; exact OpSim.ofRun hR fun v he => evIndex_run (hw x (by simp)) he
  case typeAssert x xt t ok =>
    show OpSim P B γ s w (do pure (.value (← Instr.typeAssert (ρ' x) xt t ok))) _
    rw [hρ x (by simp)]; exact OpSim.ofRun hR fun v he => evAssert_run (hw x (by simp)) he
  case extract x i =>
    show OpSim P B γ s w (do pure (.value (← Instr.extract (ρ' x) i))) _
    rw [hρ x (by simp)]; exact OpSim.ofRun hR fun v he => evExtract_run (hw x (by simp)) he
  case makeMap t r =>
    cases r with
    | some r => simp only [OpSim_err]
    | none =>
      show OpSim P B γ s w (do pure (.value (← Instr.makeMap t none))) _
      exact OpSim.ofSim fun v s' he => evMakeMap_sim hR he
  case lookup t x k ok =>
    show OpSim P B γ s w (do pure (.value (← Instr.lookup t (ρ' x) (ρ' k) ok))) _
    rw [hρ x (by simp), hρ k (by simp)]
    exact OpSim.ofRun hR fun v he => evLookup_run hR (hw k (by simp)) he
  case mapUpdate t m k x =>
    show OpSim P B γ s w (do Instr.mapUpdate t (ρ' m) (ρ' k) (ρ' x); pure .skip) _
    rw [hρ m (by simp), hρ k (by simp), hρ x (by simp)]
    split
    · rename_i s' he
      obtain ⟨w', hr, hR', hb, hn⟩ := evMapUpdate_run (P := P) hR (hw k (by simp)) (hw x (by simp)) he
      exact ⟨w', by rw [Sem.run_bind, hr]; rfl, hR', hb, hn⟩
    · trivial
  case call c =>
    show OpSim P B γ s w (do let d ← resolve ρ' c ty; invoke d.target d.args) _
    have hargs : (c.args.map ρ') = ((c.args.toList.map ρ).map (ren γ)).toArray := by
      apply Array.ext'
      rw [Array.toList_map, List.map_map]
      exact List.map_congr_left fun x hx => hρ x (by simp only [Call.operands, Array.mem_append]; right; simpa using hx)
    have hwa : ∀ v ∈ c.args.toList.map ρ, Wf s.n v := by
      intro v hv
      obtain ⟨x, hx, rfl⟩ := List.mem_map.1 hv
      exact hw x (by simp only [Call.operands, Array.mem_append]; right; simpa using hx)
    unfold resolve
    simp only [hargs]
    cases hc : c.callee with
    | builtin b => exact evBuiltin_sim hs hR hwa
    | value f =>
      simp only
      have hf : f ∈ c.operands := by simp [Call.operands, hc]
      rw [hρ f hf]
      exact evCallV_sim hR (hw f hf) hwa
    | invoke r name =>
      simp only
      have hr : r ∈ c.operands := by simp [Call.operands, hc]
      rw [hρ r hr]
      have h := evCallM_sim (P := P) hR (name := name) (hw r hr) hwa
      simp only [pure_bind, invoke]
      have he : (#[ren γ (ρ r)] ++ ((c.args.toList.map ρ).map (ren γ)).toArray) = (ren γ (ρ r) :: (c.args.toList.map ρ).map (ren γ)).toArray := by
        apply Array.ext'; simp
      rw [he]
      have h2 : ((ren γ (ρ r) :: (c.args.toList.map ρ).map (ren γ)).toArray.extract 1 (ren γ (ρ r) :: (c.args.toList.map ρ).map (ren γ)).toArray.size) = ((c.args.toList.map ρ).map (ren γ)).toArray := by
        apply Array.ext'
        simp
        rw [List.take_of_length_le (by simp)]
      simp only [h2]
      exact h
end
end Go.Ev
