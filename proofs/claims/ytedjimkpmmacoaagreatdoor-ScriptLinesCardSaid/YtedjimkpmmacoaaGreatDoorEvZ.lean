/-
  A verified evaluator of the model's code, part Z (own work): no condition; the theorem 'sound' of its last part is what a claim uses.
-/
import Derived.Test.YtedjimkpmmacoaaGreatDoorEvY
namespace Go.Ev
set_option linter.all false
set_option linter.unusedVariables false
set_option linter.unusedSimpArgs false
set_option linter.unusedSectionVars false
set_option linter.unnecessarySimpa false
open Go Go.RowKit
variable [Tok] [Sym]
section
variable {P : Program} {B : Nat → Prop} {γ : Gh} {s : St} {w : World}
section
variable {sf : Req → Res} {ops : Array Oper} {N : Nat} {L : List (Tm × St)}

theorem set_listed {listed : Array Bool} {i : Nat} (hi : i < listed.size) (j : Nat) : ((listed.setIfInBounds i true).getD j false = true) ↔ (listed.getD j false = true ∨ j = i) := by
  by_cases e : j = i
  · subst e; simp [hi]
  · simp [Array.getElem?_setIfInBounds_ne (Ne.symm e), e]

theorem count_set {l : List Bool} {i : Nat} (hi : i < l.length) (hf : l[i]? = some false) : (l.set i true).count false + 1 = l.count false := by
  induction l generalizing i with
  | nil => simp at hi
  | cons b l ih =>
    cases i with
    | zero =>
      simp at hf
      subst hf
      simp
    | succ i =>
      simp at hf hi
      have := ih hi hf
      simp only [List.set_cons_succ, List.count_cons]
      omega

theorem Inv.congr {D D' : Nat → Prop} {a : Act} {w' : World} {m : Nat} {γ' : Gh} {H O : Nat → Nat} (h : ∀ j, D j ↔ D' j) (hI : Inv P B γ s w ops N L D a w' m γ' H O) : Inv P B γ s w ops N L D' a w' m γ' H O := by
  have : D = D' := funext fun j => propext (h j)
  rw [← this]; exact hI

/-- One operation of a drawn order: whichever may stand next. -/
theorem drawn_op (hself : FnSound P sf) (h : Drawn P sf ops N L) (hok : ∀ o ∈ ops.toList, o.op.operands.toList.all okOpd = true) {D : Nat → Prop} {a : Act} {w' : World} {m : Nat} {γ' : Gh} {H O : Nat → Nat}
    (hI : Inv P B γ s w ops N L D a w' m γ' H O) {i : Nat} {o : Oper} (ho : ops[i]? = some o) (hDi : ¬ D i)
    (hpre : ∀ e ∈ o.after, Region.binds .any e = true → D e.on) {K : Act → World → Prop} {Q : Exit → Act → World → Prop}
    (hK : ∀ a'' w'' m' γ'' H' O', Inv P B γ s w ops N L (fun j => D j ∨ j = i) a'' w'' m' γ'' H' O' → K a'' w'') : wpOp P ops Q i K a w' := by
  obtain ⟨m, γ', hI, hset0⟩ := hI.settle h ho hpre ops.size (Nat.le_refl _)
  have hset : ∀ j, isW P ops j → tb ops j i = true → j < m := fun j hw ht => by
    obtain ⟨x, hx, hxw⟩ := hw
    exact hset0 j (lt_size hx) ⟨x, hx, hxw⟩ ht
  have hall : ∀ x ∈ o.op.operands, okOpd x = true := fun x hx => List.all_eq_true.1 (hok o (by simpa using Array.mem_of_getElem? ho)) x (by simpa using hx)
  have hlook := fun d hd => hI.reads h ho hDi hpre hset (d := d) hd
  have hev : ∀ x ∈ o.op.operands, a.eval x = ren γ' (ov (L.getD i dummy).1 x) ∧ Wf (L.getD m dummy).2.n (ov (L.getD i dummy).1 x) := by
    intro x hx
    have hxo := hall x hx
    cases x with
    | tmp d => exact hlook d (by
        unfold Oper.looksAt
        refine List.mem_append.2 (Or.inl ?_)
        rw [List.mem_filterMap]
        exact ⟨.tmp d, by simpa using hx, rfl⟩)
    | const v => exact ⟨(flat_ren γ' hxo).symm, flat_wf _ hxo⟩
    | func f => exact ⟨rfl, ⟨trivial, trivial⟩⟩
    | global g => cases hxo
  have hwant : Region.wanted o (yielded ops a.tmps) = gv (L.getD i dummy).1 ops o := wanted_eq fun d hd => (hlook d hd).1
  unfold wpOp
  simp only [ho]
  rw [hwant]
  have hile : i + 1 ≤ ops.size := lt_size ho
  have hdone0 : ∀ j, isW P ops j → j < m → D j := hI.done
  cases hna : isAlO o with
  | true =>
    -- a new variable
    have hal : isAlb ops i = true := by unfold isAlb; rw [ho]; exact hna
    obtain ⟨o2, ho2, he, hg, d, hd⟩ := al_spec hal
    rw [ho] at ho2; injection ho2 with ho2; subst ho2
    rw [gv_none hg]
    simp only [if_true]
    left
    have hstep0 := h.step i o ho
    have hmk : ∃ k, Maker P o.op (ov (L.getD i dummy).1) k ∧ ∀ n, (∀ x ∈ o.op.operands, Wf n (ov (L.getD i dummy).1 x)) → ∀ v ∈ k.vs, Wf n v := by
      rcases step1_cases hstep0 with ⟨hgf, _⟩ | ⟨_, ⟨v, hv, _⟩ | ⟨hv, _⟩ | ⟨f, args, v, hv, _⟩⟩
      · rw [gv_none hg] at hgf; cases hgf
      · exact mk_spec he hv
      · exfalso
        cases hop : o.op <;> rw [hop] at he hv <;> simp only [isMk, Bool.false_eq_true] at he <;> simp only [evOp] at hv <;> first | (cases hq : evAlloc P (L.getD i dummy).2 _ <;> rw [hq] at hv <;> cases hv) | (cases hv) | (cases hq : evBuildSlice P (L.getD i dummy).2 _ _ _ <;> rw [hq] at hv <;> cases hv) | (cases hq : evMakeSlice P (L.getD i dummy).2 _ _ _ <;> rw [hq] at hv <;> cases hv)
      · exfalso
        cases hop : o.op <;> rw [hop] at he hv <;> simp only [isMk, Bool.false_eq_true] at he <;> simp only [evOp] at hv <;> first | (cases hq : evAlloc P (L.getD i dummy).2 _ <;> rw [hq] at hv <;> cases hv) | (cases hv) | (cases hq : evBuildSlice P (L.getD i dummy).2 _ _ _ <;> rw [hq] at hv <;> cases hv) | (cases hq : evMakeSlice P (L.getD i dummy).2 _ _ _ <;> rw [hq] at hv <;> cases hv)
    obtain ⟨k, hmk, hkw⟩ := hmk
    obtain ⟨v, hp⟩ := h.put ho
    have hdN := (putT_get hp).2 d hd
    have hstep := op_step (P := P) hself hI.rel (o := o) (ρ := ov (L.getD i dummy).1) hev (K := K) (Q := Q)
    rw [hmk] at hstep
    refine hstep fun γ'' w'' hx hR hv hb hn => ?_
    have hwf : ∀ v ∈ k.vs, Wf (L.getD m dummy).2.n v := hkw _ (fun x hx => (hev x hx).2)
    exact hK _ _ m γ'' _ _ (hI.made h ho hDi hpre hset hal hmk hd hdN hwf hx hR hb)
  | false =>
    have gapW : isW P ops i → ∀ j, isAlb ops j = true → D j → m ≤ j → i + 1 ≤ j := fun hw j ha hD hle => by
      rcases Nat.lt_or_ge j i with hq | hq
      · have := (hI.sameMem h ho hDi hset hw hna).2.1 j (al_isW ha) hq; omega
      · rcases Nat.lt_or_ge i j with hq2 | hq2
        · omega
        · have : j = i := by omega
          subst this; exact (hDi hD).elim
    have doneW : isW P ops i → ∀ j, isW P ops j → j < i + 1 → D j ∨ j = i := fun hw j hj hlt => by
      rcases Nat.lt_or_ge j i with hq | hq
      · exact Or.inl (hI.done j hj ((hI.sameMem h ho hDi hset hw hna).2.1 j hj hq))
      · exact Or.inr (by omega)
    rcases step1_cases (h.step i o ho) with ⟨hg, hp, hs⟩ | ⟨hg, hc⟩
    · rw [hg]
      simp only [Bool.false_eq_true, if_false]
      by_cases hw : isW P ops i
      · have hsm := hI.sameMem h ho hDi hset hw hna
        have he : (L.getD (i + 1) dummy).2 = (L.getD m dummy).2 := by rw [hs, hsm.1]
        exact hK _ _ (i + 1) γ' H O (hI.advance h ho hDi hpre hset hna hp hile (by have := hsm.2.2; omega) (doneW hw) (fun _ => Nat.lt_succ_self _) (gapW hw) (by rw [he]; exact hI.rel) (Ext.refl _ _) (Fr.refl _ _) (by rw [he]; exact Nat.le_refl _) (wf_undef _))
      · exact hK _ _ m γ' H O (hI.advance h ho hDi hpre hset hna hp hI.le (Nat.le_refl _) (fun j hj hlt => Or.inl (hI.done j hj hlt)) (fun hq => (hw hq).elim) (fun j _ _ hle => hle) hI.rel (Ext.refl _ _) (Fr.refl _ _) (Nat.le_refl _) (wf_undef _))
    · rw [hg]
      simp only [if_true]
      left
      by_cases hw : isW P ops i
      · have hsm3 := hI.sameMem h ho hDi hset hw hna
        have hsm := hsm3.1
        have hstep := op_step (P := P) hself hI.rel (o := o) (ρ := ov (L.getD i dummy).1) hev (K := K) (Q := Q)
        rw [hsm] at hstep
        have next : ∀ v, putT N o.dst v (L.getD i dummy).1 = some (L.getD (i + 1) dummy).1 → ∀ γ'' w'', Ext (L.getD i dummy).2.n γ' γ'' → R (fun k => B k ∨ ∃ j, Pend ops D m j ∧ H j = k) γ'' (L.getD (i + 1) dummy).2 w'' → Wf (L.getD (i + 1) dummy).2.n v →
            Fr (fun k => B k ∨ ∃ j, Pend ops D m j ∧ H j = k) w' w'' → (L.getD i dummy).2.n ≤ (L.getD (i + 1) dummy).2.n → K (a.put o.dst (ren γ'' v)) w'' := by
          intro v hp γ'' w'' hx hR hv hb hn
          exact hK _ _ (i + 1) γ'' H O (hI.advance h ho hDi hpre hset hna hp hile (by have := hsm3.2.2; omega) (doneW hw) (fun _ => Nat.lt_succ_self _) (gapW hw) hR (by rw [hsm]; exact hx) hb (by rw [hsm]; exact hn) hv)
        rcases hc with ⟨v, he, hp⟩ | ⟨he, hp⟩ | ⟨f, args, v, he, hs, hp⟩
        · rw [he] at hstep; exact hstep (next v hp)
        · rw [he] at hstep
          exact hstep fun w'' hR hb hn => next undef hp γ' w'' (Ext.refl _ _) hR (wf_undef _) hb (Nat.le_of_eq hn.symm)
        · rw [he] at hstep; exact hstep v _ hs (next v hp)
      · -- what is no writer says the same here as in the text's order
        have key : ∃ v, evOp P o.op (ov (L.getD i dummy).1) (L.getD m dummy).2 = .val v (L.getD m dummy).2 ∧ putT N o.dst v (L.getD i dummy).1 = some (L.getD (i + 1) dummy).1 := by
          cases hko : kOf P o.op with
          | write => exact (hw ⟨o, ho, hko⟩).elim
          | pure =>
            rcases pure_op hko (L.getD i dummy).2 (ρ := ov (L.getD i dummy).1) with ⟨v, he, hall'⟩ | he
            · rcases hc with ⟨u, hu, hp⟩ | ⟨hu, _⟩ | ⟨f, args, u, hu, _⟩
              · rw [he] at hu; injection hu with hu _; subst hu; exact ⟨v, hall' _, hp⟩
              · rw [he] at hu; cases hu
              · rw [he] at hu; cases hu
            · rcases hc with ⟨u, hu, _⟩ | ⟨hu, _⟩ | ⟨f, args, u, hu, _⟩ <;> (rw [he] at hu; cases hu)
          | read =>
            have hr := h.read i o ho hko hg m hI.le (fun j hj => by
              refine ⟨fun ht => hset j hj ht, fun ht => ?_⟩
              rcases Nat.lt_or_ge j m with hlt | hge
              · obtain ⟨x, hx, hxw⟩ := hj
                have hDj := hI.done j ⟨x, hx, hxw⟩ hlt
                exact (hDi (before_closed ops h.edge D hI.closed j x hx (hI.closed j x hx hDj) i ht)).elim
              · exact hge)
            unfold rdOk at hr
            split at hr
            · rename_i v s' u s'' he1 he2
              rw [Bool.and_eq_true] at hr
              have hn := Nat.eq_of_beq_eq_true hr.1
              have hvu := veq_spec v u hr.2
              subst hvu
              have hsame := read_same hko he1 hn
              rw [hsame] at he1
              rcases hc with ⟨u, hu, hp⟩ | ⟨hu, _⟩ | ⟨f, args, u, hu, _⟩
              · rw [he2] at hu; injection hu with hu _; subst hu; exact ⟨v, he1, hp⟩
              · rw [he2] at hu; cases hu
              · rw [he2] at hu; cases hu
            · cases hr
        obtain ⟨v, he, hp⟩ := key
        have hstep := op_step (P := P) hself hI.rel (o := o) (ρ := ov (L.getD i dummy).1) hev (K := K) (Q := Q)
        rw [he] at hstep
        exact hstep fun γ'' w'' hx hR hv hb hn => hK _ _ m γ'' H O (hI.advance h ho hDi hpre hset hna hp hI.le (Nat.le_refl _) (fun j hj hlt => Or.inl (hI.done j hj hlt)) (fun hq => (hw hq).elim) (fun j _ _ hle => hle) hR hx hb hn hv)

theorem drawn_any (hself : FnSound P sf) (h : Drawn P sf ops N L) (hok : ∀ o ∈ ops.toList, o.op.operands.toList.all okOpd = true) {Q : Exit → Act → World → Prop}
    (hQ : ∀ a w', (∃ m γ' H O, Inv P B γ s w ops N L (fun j => j < ops.size) a w' m γ' H O) → Q .normal a w') :
    ∀ (fuel : Nat) (listed : Array Bool) (a : Act) (w' : World) (m : Nat) (γ' : Gh) (H O : Nat → Nat), listed.size = ops.size → listed.toList.count false ≤ fuel →
      Inv P B γ s w ops N L (fun j => listed.getD j false = true) a w' m γ' H O → wpAny P .any ops Q fuel listed a w' := by
  have fin : ∀ (listed : Array Bool) (a : Act) (w' : World) (m : Nat) (γ' : Gh) (H O : Nat → Nat), listed.size = ops.size → Inv P B γ s w ops N L (fun j => listed.getD j false = true) a w' m γ' H O →
      (∀ i, i < ops.size → listed.getD i false = true) → Q .normal a w' := by
    intro listed a w' m γ' H O hs hI hall
    refine hQ a w' ⟨m, γ', H, O, hI.congr fun j => ⟨fun hj => ?_, hall j⟩⟩
    rcases Nat.lt_or_ge j ops.size with h1 | h1
    · exact h1
    · have : ¬ j < listed.size := by omega
      simp [this] at hj
  intro fuel
  induction fuel with
  | zero =>
    intro listed a w' m γ' H O hs hc hI
    have hall : ∀ i, i < ops.size → listed.getD i false = true := by
      intro i hi
      have hl : i < listed.size := by omega
      have h0 : listed.toList.count false = 0 := by omega
      have := List.count_eq_zero.1 h0
      cases hq : listed[i] with
      | true => simp [hl, hq]
      | false => exact (this (by rw [← hq]; simp)).elim
    refine ⟨?_, fin listed a w' m γ' H O hs hI hall⟩
    cases hr : Region.ready .any ops listed with
    | nil => rfl
    | cons i l =>
      obtain ⟨o, ho, hf, _⟩ := ready_spec hs (i := i) (by rw [hr]; exact List.mem_cons_self ..)
      rw [hall i (lt_size ho)] at hf
      cases hf
  | succ fuel ih =>
    intro listed a w' m γ' H O hs hc hI
    refine ⟨fun hr => fin listed a w' m γ' H O hs hI (ready_nil hs h.edge hr), fun i hi => ?_⟩
    obtain ⟨o, ho, hf, hpre⟩ := ready_spec hs hi
    have hl : i < listed.size := by rw [hs]; exact lt_size ho
    refine drawn_op hself h hok hI ho (by rw [hf]; simp) hpre fun a'' w'' m' γ'' H' O' hI' => ?_
    refine ih _ _ _ m' γ'' H' O' (by simp [hs]) ?_ (hI'.congr fun j => (set_listed hl j).symm)
    have : (listed.setIfInBounds i true).toList = listed.toList.set i true := by simp
    rw [this]
    have hcs := count_set (l := listed.toList) (i := i) (by simpa using hl) (by
      simp [hl] at hf
      simp [hl, hf])
    omega
end

theorem draw_sound {self : Req → Res} (hm : P.follows .mixedOrders = true) (hself : FnSound P self) {id : Nat} {ops : Array Oper} {N : Nat} {t t' : Tm} {s' : St} {a : Act}
    (hok : ∀ o ∈ ops.toList, o.op.operands.toList.all okOpd = true) (he : evDraw P self ops N t s = some (t', s')) (hR : R B γ s w) (hT : TR γ s.n N t a) :
    (Code.region id ops true).wp P (Post B γ s w N .normal t' s') a w := by
  unfold evDraw at he
  split at he
  case isFalse => cases he
  rename_i h1
  split at he
  case h_2 => cases he
  rename_i L h2
  split at he
  case isFalse => cases he
  rename_i h3
  injection he with he
  obtain ⟨h, h0⟩ := Drawn.of h1 h2 h3
  refine wp_region_any hm ?_
  refine drawn_any (B := B) (γ := γ) (s := s) (w := w) hself h hok ?_ ops.size _ a _ 0 γ (fun _ => 0) (fun _ => 0) (by simp) ?_ ?_
  · rintro a' w' ⟨m, γ', H, O, hI⟩
    obtain ⟨γ', hI⟩ := hI.advs h (ops.size - m) (by have := hI.le; omega) (fun j _ hlt hw => by have := hI.le; show j < ops.size; omega)
    have hme : m + (ops.size - m) = ops.size := by have := hI.le; omega
    rw [hme] at hI
    have hnp : ∀ j, ¬ Pend ops (fun j => j < ops.size) ops.size j := fun j hj => by
      have h1 := hj.1; have h2 := hj.2.1; simp only at h1; omega
    have hS : (L.getD ops.size dummy).2 = s' := by rw [he]
    have hT' : (L.getD ops.size dummy).1 = t' := by rw [he]
    have hval : ∀ d, a'.tmps.getD d undef = ren γ' (Tr.get undef t' d) ∧ Wf s'.n (Tr.get undef t' d) := fun d => by
      rcases hI.slot d with ⟨k, hk, hkd, hv, hw⟩ | ⟨j, x, hj, _⟩
      · have hT2 : Tr.get undef (L.getD k dummy).1 d = Tr.get undef t' d := by
          have := h.tAgree hk (Nat.le_refl ops.size) (x := d) (fun j o ho hd => by rw [← hkd j o ho hd])
          rw [this, hT']
        rw [← hT2, ← hS]; exact ⟨hv, hw⟩
      · exact (hnp j hj).elim
    refine ⟨rfl, γ', ⟨hI.size, fun d => (hval d).1, fun d => (hval d).2, hI.defers⟩, hI.ext, by rw [← hS]; exact hI.rel.shrink (fun k hk => Or.inl hk), hI.below, by rw [← hS]; exact hI.num⟩
  · have : (Array.replicate ops.size false).toList.count false ≤ (Array.replicate ops.size false).toList.length := List.count_le_length ..
    simp
  · have hD : ∀ j, ¬ ((Array.replicate ops.size false).getD j false = true) := by
      intro j hj
      rw [Array.getD_eq_getD_getElem?, Array.getElem?_replicate] at hj
      split at hj <;> cases hj
    refine ⟨fun j o _ hj => (hD j hj).elim, Nat.zero_le _, fun j _ hj => absurd hj (Nat.not_lt_zero _), fun j _ hj => (hD j hj).elim, fun j hj => (hD j hj.1).elim, ?_, fun j hj => (hD j hj.1).elim, fun j _ hj => (hD j hj.1).elim, fun j hj => (hD j hj.1).elim,
      Ext.refl _ _, ?_, ?_, hT.size, hT.defers, fun d => Or.inl ⟨0, Nat.zero_le _, fun j _ _ _ => ⟨fun hj => (hD j hj).elim, fun hj => absurd hj (Nat.not_lt_zero _)⟩, ?_, ?_⟩⟩
    · rw [h0]
      have hRd : R B γ s { w with drawn := w.drawn + 1 } := hR.of_heap rfl
      refine hRd.shrink fun k hk => ?_
      rcases hk with hk | ⟨j, hj, _⟩
      · exact hk
      · exact (hD j hj.1).elim
    · exact (Fr.refl B w).drew
    · rw [h0]; exact Nat.le_refl _
    · rw [h0]; exact hT.val d
    · rw [h0]; exact hT.wf d
end
end Go.Ev
