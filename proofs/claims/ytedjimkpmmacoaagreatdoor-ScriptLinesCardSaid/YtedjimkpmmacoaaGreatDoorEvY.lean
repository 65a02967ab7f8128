/-
  A verified evaluator of the model's code, part Y (own work): no condition; the theorem 'sound' of its last part is what a claim uses.
-/
import Derived.Test.YtedjimkpmmacoaaGreatDoorEvX
namespace Go.Ev
set_option linter.all false
set_option linter.unusedVariables false
set_option linter.unusedSimpArgs false
set_option linter.unusedSectionVars false
set_option linter.unnecessarySimpa false
open Go Go.RowKit
variable [Tok] [Sym]
section
variable {P : Program} {B : Nat → Prop} {γ : Gh} {s : St} {w : World}

def γB (b o : Nat) : Gh := ⟨fun _ => b, fun _ => o, fun _ => 0⟩
theorem mk_ren (γ : Gh) (k : Mk) (id b o : Nat) : ren (γ.put id b o 0) (k.val id) = ren (γB b o) (k.val 0) := by
  unfold Mk.val
  cases k.sl <;> simp [ren, Gh.at, Gh.put, γB]
theorem mk_wf (k : Mk) (id : Nat) : Wf (id + 1) (k.val id) := by
  unfold Mk.val
  cases k.sl <;> exact Nat.lt_succ_self _
/-- A new object that is made, and isn't in the text's order yet. -/
def Pend (ops : Array Oper) (D : Nat → Prop) (m j : Nat) : Prop := D j ∧ m ≤ j ∧ isAlb ops j = true
structure Inv (P : Program) (B : Nat → Prop) (γ : Gh) (s : St) (w : World) (ops : Array Oper) (N : Nat) (L : List (Tm × St)) (D : Nat → Prop) (a : Act) (w' : World) (m : Nat) (γ' : Gh) (H O : Nat → Nat) : Prop where
  closed : ∀ j o, ops[j]? = some o → D j → ∀ e ∈ o.after, Region.binds .any e = true → D e.on
  le : m ≤ ops.size
  done : ∀ j, isW P ops j → j < m → D j
  ahead : ∀ j, isW P ops j → D j → m ≤ j → isAlb ops j = true
  late : ∀ j, Pend ops D m j → ∀ i, D i → tb ops j i = false
  rel : R (fun k => B k ∨ ∃ j, Pend ops D m j ∧ H j = k) γ' (L.getD m dummy).2 w'
  cells : ∀ j, Pend ops D m j → ∃ o k d c, ops[j]? = some o ∧ o.dst = some d ∧ Maker P o.op (ov (L.getD j dummy).1) k ∧ w'.heap[H j]? = some (.cells c k.elem (0, 0)) ∧ (O j + k.vs.length = c.size ∧ O j = 0) ∧
    (∀ q, q < k.vs.length → c[O j + q]? = some (ren γ' (k.vs.getD q undef))) ∧ (∀ v ∈ k.vs, Wf (L.getD m dummy).2.n v) ∧ a.tmps.getD d undef = ren (γB (H j) (O j)) (k.val 0)
  hinj : ∀ j j', Pend ops D m j → Pend ops D m j' → H j = H j' → j = j'
  hB : ∀ j, Pend ops D m j → ¬ B (H j)
  ext : Ext s.n γ γ'
  below : Fr B w w'
  num : s.n ≤ (L.getD m dummy).2.n
  size : a.tmps.size = N
  defers : a.defers = []
  slot : ∀ d, (∃ k, k ≤ ops.size ∧ (∀ j o, ops[j]? = some o → o.dst = some d → (D j ↔ j < k)) ∧
    a.tmps.getD d undef = ren γ' (Tr.get undef (L.getD k dummy).1 d) ∧ Wf (L.getD m dummy).2.n (Tr.get undef (L.getD k dummy).1 d)) ∨
    (∃ j o, Pend ops D m j ∧ ops[j]? = some o ∧ o.dst = some d)

section
variable {sf : Req → Res} {ops : Array Oper} {N : Nat} {L : List (Tm × St)} {D : Nat → Prop} {a : Act} {w' : World} {m : Nat} {γ' : Gh} {H O : Nat → Nat}

theorem R.shrink {B B' : Nat → Prop} {γ : Gh} {s : St} {w : World} (h : R B γ s w) (hB : ∀ k, B' k → B k) : R B' γ s w :=
  ⟨h.lt, h.obj, h.wf, h.cl, h.inj, fun i hi hq => h.low i hi (hB _ hq), fun k hk => h.bnd k (hB k hk), ⟨h.m.lt, h.m.obj, h.m.wf, h.m.inj, fun i hi hq => h.m.low i hi (hB _ hq)⟩⟩
/-- The newest object is forgotten, and stays apart. -/
theorem R.forget {B : Nat → Prop} {γ : Gh} {s : St} {w : World} {elem : TypeId} {sz : Nat} {vs : List Value} (h : R B γ (s.mk' elem sz false vs) w) (hs : ∀ i, (s.obj i).live = true → i < s.n) (hms : ∀ i, (s.mob i).live = true → i < s.n)
    (hwf : ∀ i, (s.obj i).live = true → ∀ k, k < (s.obj i).len → Wf s.n (Tr.get undef (s.obj i).cells k)) (hmwf : ∀ i, (s.mob i).live = true → ∀ e ∈ (s.mob i).ents, Wf s.n e.key ∧ Wf s.n e.val) :
    R (fun k => B k ∨ k = γ.blk s.n) γ s w ∧ ¬ B (γ.blk s.n) ∧ γ.ext s.n = 0 ∧ ∃ c, w.heap[γ.blk s.n]? = some (.cells c elem (0, 0)) ∧ (γ.off s.n + vs.length = c.size ∧ γ.off s.n = 0) ∧ ∀ k, k < vs.length → c[γ.off s.n + k]? = some (ren γ (vs.getD k undef)) := by
  have hnew : (s.mk' elem sz false vs).obj s.n = ⟨elem, sz, true, false, vs.length, put vs 0 .leaf, true⟩ := by rw [mk'_obj, if_pos rfl]
  have hob : ∀ i, (s.obj i).live = true → (s.mk' elem sz false vs).obj i = s.obj i := fun i hi => by
    have := hs i hi
    rw [mk'_obj, if_neg (by omega)]
  have hl : ∀ i, (s.obj i).live = true → ((s.mk' elem sz false vs).obj i).live = true := fun i hi => by rw [hob i hi]; exact hi
  have hln : ((s.mk' elem sz false vs).obj s.n).live = true := by rw [hnew]
  have hmob : ∀ i, (s.mk' elem sz false vs).mob i = s.mob i := fun _ => rfl
  obtain ⟨c, fz, q1, q2, q3, q4⟩ := h.obj _ hln
  rw [hnew] at q1 q2 q3 q4
  have hfz : fz = (0, 0) := by
    rcases q2 with ⟨_, q⟩ | q
    · cases q
    · exact q
  have hext := (h.cl _ hln (by rw [hnew])).1
  have hoff := (h.cl _ hln (by rw [hnew])).2
  subst hfz
  refine ⟨⟨hs, fun i hi => ?_, hwf, fun i hi ho => ?_, fun i j hi hj => h.inj i j (hl i hi) (hl j hj), fun i hi hq => ?_, fun k hk => ?_, ⟨hms, fun i hi => h.m.obj i hi, hmwf, fun i j hi hj => h.m.inj i j hi hj, fun i hi hq => ?_⟩⟩, h.low _ hln, hext, c, q1, ?_, fun k hk => ?_⟩
  · have := h.obj i (hl i hi); rwa [hob i hi] at this
  · exact h.cl i (hl i hi) (by rw [hob i hi]; exact ho)
  · rcases hq with hq | hq
    · exact h.low i (hl i hi) hq
    · have := h.inj i s.n (hl i hi) hln hq
      have := hs i hi
      omega
  · rcases hk with hk | hk
    · exact h.bnd k hk
    · rw [hk]; exact h.blk_lt hln
  · rcases hq with hq | hq
    · exact h.m.low i hi hq
    · have := h.m.obj i hi
      rw [hq, q1] at this
      cases this
  · rw [hext] at q3
    have q3' : γ.off s.n + vs.length + 0 * sz = c.size := q3
    exact ⟨by omega, hoff⟩
  · have := q4 k hk
    rw [this, put_get, if_pos (by simp; exact hk), Nat.sub_zero]

theorem al_spec {ops : Array Oper} {j : Nat} (h : isAlb ops j = true) : ∃ o, ops[j]? = some o ∧ isMk o.op = true ∧ o.guard = none ∧ ∃ d, o.dst = some d := by
  unfold isAlb at h
  split at h
  · rename_i o ho
    unfold isAlO at h
    simp only [Bool.and_eq_true] at h
    obtain ⟨h0, h1, h2⟩ := h
    refine ⟨o, ho, h0, by simpa using h1, ?_⟩
    cases hd : o.dst with
    | none => rw [hd] at h2; cases h2
    | some d => exact ⟨d, rfl⟩
  · cases h
theorem al_isW {ops : Array Oper} {j : Nat} (h : isAlb ops j = true) : isW P ops j := by
  obtain ⟨o, ho, he, _⟩ := al_spec h
  exact ⟨o, ho, mk_kOf he⟩
theorem gv_none {t : Tm} {ops : Array Oper} {o : Oper} (h : o.guard = none) : gv t ops o = true := by unfold gv; rw [h]

/-- Of two operations at one slot the one is ahead of the other. -/
theorem Inv.prior (h : Drawn P sf ops N L) (hI : Inv P B γ s w ops N L D a w' m γ' H O) {i : Nat} {o : Oper} (ho : ops[i]? = some o) (hDi : ¬ D i)
    (hpre : ∀ e ∈ o.after, Region.binds .any e = true → D e.on) {j : Nat} {x : Oper} (hx : ops[j]? = some x)
    (hc : (j < i → tb ops j i = true) ∧ (i < j → tb ops i j = true)) : D j ↔ j < i := by
  constructor
  · intro hj
    rcases Nat.lt_trichotomy j i with hlt | rfl | hlt
    · exact hlt
    · exact (hDi hj).elim
    · exact (hDi (before_closed ops h.edge D hI.closed j x hx (hI.closed j x hx hj) i (hc.2 hlt))).elim
  · intro hlt
    exact before_closed ops h.edge D hI.closed i o ho hpre j (hc.1 hlt)

theorem apart_looks {ops : Array Oper} {x y : Oper} (h : Oper.apart ops x y = true) :
    (∀ d, x.dst = some d → d ∉ y.looksAt ops) ∧ (∀ d, x.dst = some d → y.dst ≠ some d) ∧ (∀ d, y.dst = some d → d ∉ x.looksAt ops) := Oper.apart_spec h

/-- The text's order goes on by one operation that is done. -/
theorem Inv.adv (h : Drawn P sf ops N L) (hI : Inv P B γ s w ops N L D a w' m γ' H O) (hm : m < ops.size) (hd : isW P ops m → D m) :
    ∃ γ'', Inv P B γ s w ops N L D a w' (m + 1) γ'' H O := by
  have ho := Array.getElem?_eq_getElem hm
  have hpend : ∀ j, Pend ops D (m + 1) j → Pend ops D m j ∧ j ≠ m := fun j hj => ⟨⟨hj.1, by have := hj.2.1; omega, hj.2.2⟩, by have := hj.2.1; omega⟩
  by_cases hw : isW P ops m
  · -- the pending one
    have hDm := hd hw
    have hal := hI.ahead m hw hDm (Nat.le_refl _)
    have hpm : Pend ops D m m := ⟨hDm, Nat.le_refl _, hal⟩
    obtain ⟨o, ho', he, hg, d, hdst⟩ := al_spec hal
    obtain ⟨o2, k, d2, c, ho2, hd2, hmk, hcell, hsz, hck, hwk, hsl⟩ := hI.cells m hpm
    rw [ho'] at ho2; injection ho2 with ho2; subst ho2
    rw [hdst] at hd2; injection hd2 with hd2; subst hd2
    have hstep := h.step m o ho'
    have hev : step1 P sf ops N o (L.getD m dummy).1 (L.getD m dummy).2 = (putT N o.dst (k.val (L.getD m dummy).2.n) (L.getD m dummy).1).map fun t' => (t', (L.getD m dummy).2.mk' k.elem k.sz false k.vs) := by
      unfold step1
      rw [gv_none hg, if_pos rfl, hmk]
    rw [hev] at hstep
    cases hp : putT N o.dst (k.val (L.getD m dummy).2.n) (L.getD m dummy).1 with
    | none => rw [hp] at hstep; cases hstep
    | some t1 =>
      rw [hp] at hstep
      simp only [Option.map_some, Option.some.injEq] at hstep
      have hs1 : (L.getD (m + 1) dummy).2 = (L.getD m dummy).2.mk' k.elem k.sz false k.vs := by rw [← hstep]
      have ht1 : (L.getD (m + 1) dummy).1 = t1 := by rw [← hstep]
      obtain ⟨hget, hltN⟩ := putT_get hp
      have hn1 : (L.getD (m + 1) dummy).2.n = (L.getD m dummy).2.n + 1 := by rw [hs1]; rfl
      have hx := Ext.put γ' (L.getD m dummy).2.n (H m) (O m) 0
      have hR1 : R (fun k => B k ∨ ∃ j, Pend ops D (m + 1) j ∧ H j = k) γ' (L.getD m dummy).2 w' :=
        hI.rel.shrink fun k hk => by
          rcases hk with hk | ⟨j, hj, hk⟩
          · exact Or.inl hk
          · exact Or.inr ⟨j, (hpend j hj).1, hk⟩
      have hne : ∀ i, ((L.getD m dummy).2.obj i).live = true → γ'.blk i ≠ H m := fun i hi e' => hI.rel.low i hi (Or.inr ⟨m, hpm, e'.symm⟩)
      have hR2 := hR1.more (w' := w') (elem := k.elem) (sz := k.sz) (raw := true) (opn := false) (vs := k.vs) (b := H m) (o := O m) (e := 0) (c := c) (fz := (0, 0))
        (fun i hi => ⟨rfl, hne i hi⟩) (fun i hi => rfl) hcell (Or.inr rfl) (by rw [Nat.zero_mul]; exact hsz.1) hck hwk (fun _ => ⟨rfl, hsz.2⟩) (fun hq => by
          rcases hq with hq | ⟨j, hj, hq⟩
          · exact hI.hB m hpm hq
          · exact (hpend j hj).2 (hI.hinj j m (hpend j hj).1 hpm hq)) (fun k hk => hR1.bnd k hk)
      refine ⟨γ'.put (L.getD m dummy).2.n (H m) (O m) 0, hI.closed, hm, fun j hj hlt => ?_, fun j hj hD hle => hI.ahead j hj hD (by omega), fun j hj i hi => hI.late j (hpend j hj).1 i hi, ?_, fun j hj => ?_,
        fun j j' hj hj' hq => hI.hinj j j' (hpend j hj).1 (hpend j' hj').1 hq, fun j hj => hI.hB j (hpend j hj).1, hI.ext.trans hx hI.num, hI.below, by rw [hn1]; have := hI.num; omega, hI.size, hI.defers, fun d' => ?_⟩
      · rcases Nat.lt_or_ge j m with hq | hq
        · exact hI.done j hj hq
        · have : j = m := by omega
          subst this; exact hDm
      · rw [hs1]; exact hR2
      · obtain ⟨oj, kj, dj, cj, q1, q2, q3, q4, q5, q6, q7, q8⟩ := hI.cells j (hpend j hj).1
        refine ⟨oj, kj, dj, cj, q1, q2, q3, q4, q5, fun q hq => ?_, fun v hv => ?_, q8⟩
        · rw [q6 q hq, ren_ext hx _ (q7 _ (by rw [List.getD, List.getElem?_eq_getElem hq]; exact List.getElem_mem _))]
        · rw [hn1]; exact Wf.mono (Nat.le_succ _) _ (q7 v hv)
      · rw [hn1]
        rcases hI.slot d' with ⟨k, hk, hkd, hv, hw'⟩ | ⟨j, oj, hj, hoj, hjd⟩
        · exact Or.inl ⟨k, hk, hkd, by rw [hv, ren_ext hx _ hw'], Wf.mono (Nat.le_succ _) _ hw'⟩
        · by_cases hjm : j = m
          · subst hjm
            rw [ho'] at hoj; injection hoj with hoj; subst hoj
            refine Or.inl ⟨j + 1, hm, fun j' x hx' hxd => ?_, ?_, ?_⟩
            · rcases Nat.lt_trichotomy j' j with hlt | rfl | hlt
              · refine ⟨fun _ => by omega, fun _ => ?_⟩
                rcases h.pair j' j x o hlt hx' ho' with ht | ⟨ha, _⟩
                · exact before_closed ops h.edge D hI.closed j o ho' (hI.closed j o ho' hDm) j' ht
                · exact ((apart_looks ha).2.1 d' hxd hjd).elim
              · exact ⟨fun _ => by omega, fun _ => hDm⟩
              · refine ⟨fun hD => ?_, fun hq => by omega⟩
                rcases h.pair j j' o x hlt ho' hx' with ht | ⟨ha, _⟩
                · rw [hI.late j hpm j' hD] at ht; cases ht
                · exact ((apart_looks ha).2.1 d' hjd hxd).elim
            · have hdd : d' = d := by rw [hdst] at hjd; injection hjd with hjd; exact hjd.symm
              rw [ht1, hget d', if_pos hjd, mk_ren, hdd]; exact hsl
            · rw [ht1, hget d', if_pos hjd]
              exact mk_wf _ _
          · refine Or.inr ⟨j, oj, ⟨hj.1, ?_, hj.2.2⟩, hoj, hjd⟩
            have := hj.2.1; omega
  · have hs1 := h.stays ho hw
    have hp2 : ∀ j, Pend ops D m j → Pend ops D (m + 1) j := fun j hj => by
      refine ⟨hj.1, ?_, hj.2.2⟩
      have h1 := hj.2.1
      rcases Nat.lt_or_ge m j with hq | hq
      · exact hq
      · have : j = m := by omega
        subst this
        exact (hw (al_isW hj.2.2)).elim
    have hpp : ∀ j, Pend ops D (m + 1) j ↔ Pend ops D m j := fun j => ⟨fun hj => (hpend j hj).1, hp2 j⟩
    refine ⟨γ', hI.closed, hm, fun j hj hlt => ?_, fun j hj hD hle => hI.ahead j hj hD (by omega), fun j hj i hi => hI.late j (hpend j hj).1 i hi, ?_, fun j hj => by rw [hs1]; exact hI.cells j (hpend j hj).1,
      fun j j' hj hj' hq => hI.hinj j j' (hpend j hj).1 (hpend j' hj').1 hq, fun j hj => hI.hB j (hpend j hj).1, hI.ext, hI.below, by rw [hs1]; exact hI.num, hI.size, hI.defers, fun d' => ?_⟩
    · rcases Nat.lt_or_ge j m with hq | hq
      · exact hI.done j hj hq
      · have : j = m := by omega
        subst this; exact (hw hj).elim
    · rw [hs1]
      exact hI.rel.shrink fun k hk => by
        rcases hk with hk | ⟨j, hj, hk⟩
        · exact Or.inl hk
        · exact Or.inr ⟨j, (hpend j hj).1, hk⟩
    · rw [hs1]
      rcases hI.slot d' with hq | ⟨j, oj, hj, r⟩
      · exact Or.inl hq
      · exact Or.inr ⟨j, oj, hp2 j hj, r⟩
theorem Inv.advs (h : Drawn P sf ops N L) (hI : Inv P B γ s w ops N L D a w' m γ' H O) : ∀ n, m + n ≤ ops.size → (∀ j, m ≤ j → j < m + n → isW P ops j → D j) → ∃ γ'', Inv P B γ s w ops N L D a w' (m + n) γ'' H O
  | 0, _, _ => ⟨γ', hI⟩
  | n + 1, hn, hd => by
    obtain ⟨γ1, h1⟩ := Inv.advs h hI n (by omega) (fun j hj hlt => hd j hj (by omega))
    have hlt : m + n < ops.size := by omega
    exact h1.adv h hlt (fun hw => hd (m + n) (by omega) (by omega) hw)
/-- The text's order goes on as far as the next operation hangs on it. -/
theorem Inv.settle (h : Drawn P sf ops N L) (hI : Inv P B γ s w ops N L D a w' m γ' H O) {i : Nat} {o : Oper} (ho : ops[i]? = some o)
    (hpre : ∀ e ∈ o.after, Region.binds .any e = true → D e.on) : ∀ k, k ≤ ops.size → ∃ m' γ'', Inv P B γ s w ops N L D a w' m' γ'' H O ∧ ∀ j, j < k → isW P ops j → tb ops j i = true → j < m'
  | 0, _ => ⟨m, γ', hI, fun j hj => absurd hj (Nat.not_lt_zero _)⟩
  | k + 1, hk => by
    obtain ⟨m1, γ1, h1, hs⟩ := Inv.settle h hI ho hpre k (by omega)
    by_cases hc : isW P ops k ∧ tb ops k i = true ∧ m1 ≤ k
    · obtain ⟨hw, ht, hle⟩ := hc
      have hD : ∀ j, tb ops j i = true → D j := fun j hj => before_closed ops h.edge D h1.closed i o ho hpre j hj
      have hal := h1.ahead k hw (hD k ht) hle
      obtain ⟨ok, hok, hek, hgk, dk, hdk⟩ := al_spec hal
      have hao : isAlO ok = true := by
        unfold isAlb at hal; rw [hok] at hal; exact hal
      obtain ⟨γ2, h2⟩ := h1.advs h (k + 1 - m1) (by omega) (fun j hj hlt hwj => by
        by_cases hjk : j = k
        · subst hjk; exact hD j ht
        · exact hD j (h.al k ok i hok hao (lt_size ho) ht j (by omega) hwj))
      have he : m1 + (k + 1 - m1) = k + 1 := by omega
      rw [he] at h2
      exact ⟨k + 1, γ2, h2, fun j hj _ _ => hj⟩
    · refine ⟨m1, γ1, h1, fun j hj hw ht => ?_⟩
      rcases Nat.lt_or_ge j k with hq | hq
      · exact hs j hq hw ht
      · have : j = k := by omega
        subst this
        rcases Nat.lt_or_ge j m1 with hq2 | hq2
        · exact hq2
        · exact (hc ⟨hw, ht, hq2⟩).elim

theorem Inv.reads (h : Drawn P sf ops N L) (hI : Inv P B γ s w ops N L D a w' m γ' H O) {i : Nat} {o : Oper} (ho : ops[i]? = some o) (hDi : ¬ D i)
    (hpre : ∀ e ∈ o.after, Region.binds .any e = true → D e.on) (hset : ∀ j, isW P ops j → tb ops j i = true → j < m) {d : Nat} (hd : d ∈ o.looksAt ops) :
    a.tmps.getD d undef = ren γ' (Tr.get undef (L.getD i dummy).1 d) ∧ Wf (L.getD m dummy).2.n (Tr.get undef (L.getD i dummy).1 d) := by
  rcases hI.slot d with ⟨k, hk, hkd, hv, hw⟩ | ⟨j, x, hj, hx, hxd⟩
  · have : Tr.get undef (L.getD k dummy).1 d = Tr.get undef (L.getD i dummy).1 d := by
      refine h.tAgree hk (Nat.le_of_lt (lt_size ho)) fun j x hx hxd => ?_
      rw [← hkd j x hx hxd]
      refine hI.prior h ho hDi hpre hx ⟨fun hlt => ?_, fun hlt => ?_⟩
      · rcases h.pair j i x o hlt hx ho with ht | ⟨ha, _⟩
        · exact ht
        · exact ((apart_looks ha).1 d hxd hd).elim
      · rcases h.pair i j o x hlt ho hx with ht | ⟨ha, _⟩
        · exact ht
        · exact ((apart_looks ha).2.2 d hxd hd).elim
    rw [← this]
    exact ⟨hv, hw⟩
  · exfalso
    rcases Nat.lt_trichotomy j i with hlt | rfl | hlt
    · rcases h.pair j i x o hlt hx ho with ht | ⟨ha, _⟩
      · have := hset j (al_isW hj.2.2) ht
        have := hj.2.1; omega
      · exact (apart_looks ha).1 d hxd hd
    · exact hDi hj.1
    · rcases h.pair i j o x hlt ho hx with ht | ⟨ha, _⟩
      · exact hDi (before_closed ops h.edge D hI.closed j x hx (hI.closed j x hx hj.1) i ht)
      · exact (apart_looks ha).2.2 d hxd hd

theorem Inv.sameMem (h : Drawn P sf ops N L) (hI : Inv P B γ s w ops N L D a w' m γ' H O) {i : Nat} {o : Oper} (ho : ops[i]? = some o) (hDi : ¬ D i)
    (hset : ∀ j, isW P ops j → tb ops j i = true → j < m) (hw : isW P ops i) (hna : isAlO o = false) :
    (L.getD m dummy).2 = (L.getD i dummy).2 ∧ (∀ j, isW P ops j → j < i → j < m) ∧ m ≤ i := by
  have k1 : ∀ j, isW P ops j → j < i → j < m := by
    intro j hj hlt
    obtain ⟨x, hx, hxw⟩ := hj
    rcases h.pair j i x o hlt hx ho with ht | ⟨_, hn⟩
    · exact hset j ⟨x, hx, hxw⟩ ht
    · rw [hn ⟨x, hx, hxw⟩ hw] at hna; cases hna
  have k2 : m ≤ i := by
    rcases Nat.lt_or_ge i m with hq | hq
    · exact (hDi (hI.done i hw hq)).elim
    · exact hq
  exact ⟨h.sAgree hI.le (Nat.le_of_lt (lt_size ho)) fun j hj => ⟨fun hq => by omega, fun hq => k1 j hj hq⟩, k1, k2⟩

/-- One operation done that is no new variable. -/
theorem Inv.advance (h : Drawn P sf ops N L) (hI : Inv P B γ s w ops N L D a w' m γ' H O) {i : Nat} {o : Oper} (ho : ops[i]? = some o) (hDi : ¬ D i)
    (hpre : ∀ e ∈ o.after, Region.binds .any e = true → D e.on) (hset : ∀ j, isW P ops j → tb ops j i = true → j < m) (hna : isAlO o = false) {v : Value} (hp : putT N o.dst v (L.getD i dummy).1 = some (L.getD (i + 1) dummy).1)
    {m' : Nat} {γ'' : Gh} {w'' : World} (hm : m' ≤ ops.size) (hmm : m ≤ m') (hdone : ∀ j, isW P ops j → j < m' → D j ∨ j = i) (hi : isW P ops i → i < m') (hgap : ∀ j, isAlb ops j = true → D j → m ≤ j → m' ≤ j)
    (hR : R (fun k => B k ∨ ∃ j, Pend ops D m j ∧ H j = k) γ'' (L.getD m' dummy).2 w'')
    (hx : Ext (L.getD m dummy).2.n γ' γ'') (hb : Fr (fun k => B k ∨ ∃ j, Pend ops D m j ∧ H j = k) w' w'') (hn : (L.getD m dummy).2.n ≤ (L.getD m' dummy).2.n) (hv : Wf (L.getD m' dummy).2.n v) :
    Inv P B γ s w ops N L (fun j => D j ∨ j = i) (a.put o.dst (ren γ'' v)) w'' m' γ'' H O := by
  have hnb : isAlb ops i = false := by unfold isAlb; rw [ho]; exact hna
  have hp1 : ∀ j, Pend ops (fun j => D j ∨ j = i) m' j ↔ Pend ops D m j := by
    intro j
    constructor
    · rintro ⟨hj | rfl, hle, ha⟩
      · exact ⟨hj, by omega, ha⟩
      · rw [hnb] at ha; cases ha
    · rintro ⟨hj, hle, ha⟩
      exact ⟨Or.inl hj, hgap j ha hj hle, ha⟩
  have hfr : (fun k => B k ∨ ∃ j, Pend ops (fun j => D j ∨ j = i) m' j ∧ H j = k) = (fun k => B k ∨ ∃ j, Pend ops D m j ∧ H j = k) := by
    funext k
    apply propext
    constructor
    · rintro (hk | ⟨j, hj, hk⟩)
      · exact Or.inl hk
      · exact Or.inr ⟨j, (hp1 j).1 hj, hk⟩
    · rintro (hk | ⟨j, hj, hk⟩)
      · exact Or.inl hk
      · exact Or.inr ⟨j, (hp1 j).2 hj, hk⟩
  refine ⟨fun j x hx' hj e he hbn => ?_, hm, hdone, fun j hj hD hle => ?_, fun j hj i' hi' => ?_, by rw [hfr]; exact hR, fun j hj => ?_, fun j j' hj hj' hq => hI.hinj j j' ((hp1 j).1 hj) ((hp1 j').1 hj') hq, fun j hj => hI.hB j ((hp1 j).1 hj),
    hI.ext.trans hx hI.num, hI.below.trans (hb.mono fun k hk => Or.inl hk), Nat.le_trans hI.num hn, ?_, ?_, fun d => ?_⟩
  · rcases hj with hj | rfl
    · exact Or.inl (hI.closed j x hx' hj e he hbn)
    · rw [ho] at hx'; injection hx' with hx'; subst hx'
      exact Or.inl (hpre e he hbn)
  · rcases hD with hD | rfl
    · exact hI.ahead j hj hD (by omega)
    · have := hi hj; omega
  · rcases hi' with hi' | rfl
    · exact hI.late j ((hp1 j).1 hj) i' hi'
    · cases hq : tb ops j i' with
      | false => rfl
      | true =>
        have h1 := hset j (al_isW hj.2.2) hq
        have h2 := ((hp1 j).1 hj).2.1
        omega
  · have hpj := (hp1 j).1 hj
    obtain ⟨x, k, d, c, q1, q2, q3, q4, q5, q6, q7, q8⟩ := hI.cells j hpj
    refine ⟨x, k, d, c, q1, q2, q3, by rw [hb.block _ (Or.inr ⟨j, hpj, rfl⟩)]; exact q4, q5, fun q hq => ?_, fun v hv => Wf.mono hn _ (q7 v hv), ?_⟩
    · rw [q6 q hq, ren_ext hx _ (q7 _ (by rw [List.getD, List.getElem?_eq_getElem hq]; exact List.getElem_mem _))]
    · have hne : o.dst ≠ some d := by
        intro hod
        rcases Nat.lt_trichotomy j i with hlt | rfl | hlt
        · rcases h.pair j i x o hlt q1 ho with ht | ⟨ha, _⟩
          · have h1 := hset j (al_isW hpj.2.2) ht
            have h2 := hpj.2.1; omega
          · exact (apart_looks ha).2.1 d q2 hod
        · exact hDi hpj.1
        · rcases h.pair i j o x hlt ho q1 with ht | ⟨ha, _⟩
          · exact hDi (before_closed ops h.edge D hI.closed j x q1 (hI.closed j x q1 hpj.1) i ht)
          · exact (apart_looks ha).2.1 d hod q2
      rw [← q8]
      cases hq : o.dst with
      | none => rfl
      | some e =>
        have hne' : e ≠ d := fun he => hne (by rw [hq, he])
        simp [Act.put, Array.getElem?_setIfInBounds_ne hne']
  · cases o.dst <;> simp [Act.put, hI.size]
  · cases o.dst <;> simp [Act.put, hI.defers]
  · obtain ⟨hg, hlt⟩ := putT_get hp
    by_cases hd : o.dst = some d
    · refine Or.inl ⟨i + 1, lt_size ho, fun j x hx' hxd => ?_, ?_, ?_⟩
      · have key : j ≠ i → (D j ↔ j < i) := fun hne => hI.prior h ho hDi hpre hx' ⟨fun hl => by
            rcases h.pair j i x o hl hx' ho with ht | ⟨ha, _⟩
            · exact ht
            · exact ((apart_looks ha).2.1 d hxd hd).elim, fun hl => by
            rcases h.pair i j o x hl ho hx' with ht | ⟨ha, _⟩
            · exact ht
            · exact ((apart_looks ha).2.1 d hd hxd).elim⟩
        by_cases hji : j = i
        · subst hji; simp
        · rw [key hji]
          omega
      · rw [hg d, if_pos hd, hd]
        have hs : d < a.tmps.size := by rw [hI.size]; exact hlt d hd
        simp [Act.put, hs]
      · rw [hg d, if_pos hd]; exact hv
    · have hput : (a.put o.dst (ren γ'' v)).tmps.getD d undef = a.tmps.getD d undef := by
        cases hq : o.dst with
        | none => rfl
        | some e =>
          have hne : e ≠ d := fun he => hd (by rw [hq, he])
          simp [Act.put, Array.getElem?_setIfInBounds_ne hne]
      rcases hI.slot d with ⟨k, hk, hkd, hva, hwf⟩ | ⟨j, x, hj, hx', hxd⟩
      · refine Or.inl ⟨k, hk, fun j x hx' hxd => ?_, ?_, Wf.mono hn _ hwf⟩
        · have hji : j ≠ i := by
            rintro rfl
            rw [ho] at hx'; injection hx' with hx'; subst hx'
            exact hd hxd
          rw [← hkd j x hx' hxd]
          simp [hji]
        · rw [ren_ext hx _ hwf, ← hva, hput]
      · exact Or.inr ⟨j, x, (hp1 j).2 hj, hx', hxd⟩

/-- A new object made. -/
theorem Inv.made (h : Drawn P sf ops N L) (hI : Inv P B γ s w ops N L D a w' m γ' H O) {i : Nat} {o : Oper} (ho : ops[i]? = some o) (hDi : ¬ D i)
    (hpre : ∀ e ∈ o.after, Region.binds .any e = true → D e.on) (hset : ∀ j, isW P ops j → tb ops j i = true → j < m) (hal : isAlb ops i = true) {k : Mk} (hmk : Maker P o.op (ov (L.getD i dummy).1) k)
    {d : Nat} (hd : o.dst = some d) (hdN : d < N) {γ'' : Gh} {w'' : World} (hwf : ∀ v ∈ k.vs, Wf (L.getD m dummy).2.n v)
    (hx : Ext (L.getD m dummy).2.n γ' γ'') (hR : R (fun k => B k ∨ ∃ j, Pend ops D m j ∧ H j = k) γ'' ((L.getD m dummy).2.mk' k.elem k.sz false k.vs) w'') (hb : Fr (fun k => B k ∨ ∃ j, Pend ops D m j ∧ H j = k) w' w'') :
    Inv P B γ s w ops N L (fun j => D j ∨ j = i) (a.put o.dst (ren γ'' (k.val (L.getD m dummy).2.n))) w'' m γ'' (fun j => if j = i then γ''.blk (L.getD m dummy).2.n else H j) (fun j => if j = i then γ''.off (L.getD m dummy).2.n else O j) := by
  obtain ⟨hR', hnB, hext0, c, hc1, hc2, hc3⟩ := hR.forget hI.rel.lt hI.rel.m.lt hI.rel.wf hI.rel.m.wf
  have hwi : isW P ops i := al_isW hal
  have him : m ≤ i := by
    rcases Nat.lt_or_ge i m with hq | hq
    · exact (hDi (hI.done i hwi hq)).elim
    · exact hq
  have hHB : ∀ j, Pend ops D m j → H j ≠ γ''.blk (L.getD m dummy).2.n := fun j hj e => hnB (Or.inr ⟨j, hj, e⟩)
  have hp1 : ∀ j, Pend ops (fun j => D j ∨ j = i) m j → j = i ∨ Pend ops D m j ∧ j ≠ i := by
    rintro j ⟨hj | rfl, hle, ha⟩
    · exact Or.inr ⟨⟨hj, hle, ha⟩, fun e => hDi (e ▸ hj)⟩
    · exact Or.inl rfl
  have hval : ren γ'' (k.val (L.getD m dummy).2.n) = ren (γB (γ''.blk (L.getD m dummy).2.n) (γ''.off (L.getD m dummy).2.n)) (k.val 0) := by
    unfold Mk.val
    cases k.sl with
    | none => simp [ren, Gh.at, γB]
    | some q => simp only [ren, Gh.at, γB, hext0, Nat.add_zero]
  refine ⟨fun j x hx' hj e' he' hbn => ?_, hI.le, fun j hj hlt => Or.inl (hI.done j hj hlt), fun j hj hD hle => ?_, fun j hj i' hi' => ?_, ?_, fun j hj => ?_, fun j j' hj hj' hq => ?_, fun j hj => ?_,
    hI.ext.trans hx hI.num, hI.below.trans (hb.mono fun k hk => Or.inl hk), hI.num, ?_, ?_, fun d' => ?_⟩
  · rcases hj with hj | rfl
    · exact Or.inl (hI.closed j x hx' hj e' he' hbn)
    · rw [ho] at hx'; injection hx' with hx'; subst hx'
      exact Or.inl (hpre e' he' hbn)
  · rcases hD with hD | rfl
    · exact hI.ahead j hj hD hle
    · exact hal
  · cases hq : tb ops j i' with
    | false => rfl
    | true =>
      exfalso
      rcases hp1 j hj with rfl | ⟨hj', _⟩
      · rcases hi' with hi' | rfl
        · have hs : i' < ops.size := by
            rcases Nat.lt_or_ge i' ops.size with h1 | h1
            · exact h1
            · unfold tb at hq
              rw [show (Region.before ops).getD i' 0 = 0 from before_out ops i' h1] at hq
              simp at hq
          exact hDi (before_closed ops h.edge D hI.closed i' _ (Array.getElem?_eq_getElem hs) (hI.closed i' _ (Array.getElem?_eq_getElem hs) hi') j hq)
        · have := h.tb_lt i' o ho i' hq; omega
      · rcases hi' with hi' | rfl
        · rw [hI.late j hj' i' hi'] at hq; cases hq
        · have h1 := hset j (al_isW hj.2.2) hq
          have h2 := hj'.2.1
          omega
  · refine hR'.shrink fun k hk => ?_
    rcases hk with hk | ⟨j, hj, hk⟩
    · exact Or.inl (Or.inl hk)
    · rcases hp1 j hj with rfl | ⟨hj', hne⟩
      · simp only [if_true] at hk; exact Or.inr hk.symm
      · rw [if_neg hne] at hk; exact Or.inl (Or.inr ⟨j, hj', hk⟩)
  · rcases hp1 j hj with rfl | ⟨hj', hne⟩
    · refine ⟨o, k, d, c, ho, hd, hmk, ?_, ?_, ?_, hwf, ?_⟩
      · simp only [if_true]; exact hc1
      · simp only [if_true]; exact hc2
      · simp only [if_true]; exact hc3
      · have hs : d < a.tmps.size := by rw [hI.size]; exact hdN
        simp only [if_true, hd]
        rw [← hval]
        simp [Act.put, hs]
    · obtain ⟨x, kj, dj, cj, q1, q2, q3, q4, q5, q6, q7, q8⟩ := hI.cells j hj'
      refine ⟨x, kj, dj, cj, q1, q2, q3, ?_, ?_, ?_, q7, ?_⟩
      · rw [if_neg hne, hb.block _ (Or.inr ⟨j, hj', rfl⟩)]; exact q4
      · rw [if_neg hne]; exact q5
      · rw [if_neg hne]
        intro q hq
        rw [q6 q hq, ren_ext hx _ (q7 _ (by rw [List.getD, List.getElem?_eq_getElem hq]; exact List.getElem_mem _))]
      · rw [if_neg hne, if_neg hne, ← q8]
        have hdd : d ≠ dj := by
          intro e; subst e
          rcases Nat.lt_or_ge j i with hlt | hge
          · rcases h.pair j i x o hlt q1 ho with ht | ⟨ha, _⟩
            · have h1 := hset j (al_isW hj'.2.2) ht
              have h2 := hj'.2.1; omega
            · exact (apart_looks ha).2.1 d q2 hd
          · have hlt : i < j := by omega
            rcases h.pair i j o x hlt ho q1 with ht | ⟨ha, _⟩
            · exact hDi (before_closed ops h.edge D hI.closed j x q1 (hI.closed j x q1 hj'.1) i ht)
            · exact (apart_looks ha).2.1 d hd q2
        rw [hd]
        simp [Act.put, Array.getElem?_setIfInBounds_ne hdd]
  · rcases hp1 j hj with rfl | ⟨h1, hne⟩
    · rcases hp1 j' hj' with rfl | ⟨h1', hne'⟩
      · rfl
      · simp only [if_true] at hq; rw [if_neg hne'] at hq
        exact (hHB j' h1' hq.symm).elim
    · rcases hp1 j' hj' with rfl | ⟨h1', hne'⟩
      · simp only [if_true] at hq; rw [if_neg hne] at hq
        exact (hHB j h1 hq).elim
      · rw [if_neg hne, if_neg hne'] at hq
        exact hI.hinj j j' h1 h1' hq
  · rcases hp1 j hj with rfl | ⟨h1, hne⟩
    · simp only [if_true]; exact fun hq => hnB (Or.inl hq)
    · rw [if_neg hne]; exact hI.hB j h1
  · simp [hd, Act.put, hI.size]
  · simp [hd, Act.put, hI.defers]
  · by_cases hdd : d' = d
    · subst hdd
      exact Or.inr ⟨i, o, ⟨Or.inr rfl, him, hal⟩, ho, hd⟩
    · have hput : (a.put o.dst (ren γ'' (k.val (L.getD m dummy).2.n))).tmps.getD d' undef = a.tmps.getD d' undef := by
        rw [hd]
        simp [Act.put, Array.getElem?_setIfInBounds_ne (Ne.symm hdd)]
      rcases hI.slot d' with ⟨q, hk, hkd, hva, hwf'⟩ | ⟨j, x, hj, hx', hxd⟩
      · refine Or.inl ⟨q, hk, fun j x hx' hxd => ?_, by rw [hput, hva, ren_ext hx _ hwf'], hwf'⟩
        have hji : j ≠ i := by
          rintro rfl
          rw [ho] at hx'; injection hx' with hx'; subst hx'
          rw [hd] at hxd; injection hxd with hxd; exact hdd hxd.symm
        rw [← hkd j x hx' hxd]
        simp [hji]
      · exact Or.inr ⟨j, x, ⟨Or.inl hj.1, hj.2.1, hj.2.2⟩, hx', hxd⟩

theorem ready_nil {ops : Array Oper} {listed : Array Bool} (hs : listed.size = ops.size) (hE : ∀ j o, ops[j]? = some o → ∀ e ∈ o.after, Region.binds .any e = true → e.on < j)
    (h : Region.ready .any ops listed = []) : ∀ i, i < ops.size → listed.getD i false = true := by
  intro i
  induction i using Nat.strongRecOn with
  | _ i ih =>
    intro hi
    cases hq : listed.getD i false with
    | true => rfl
    | false =>
      exfalso
      have hl : i < listed.size := by omega
      have ho := Array.getElem?_eq_getElem hi
      have hmem : i ∈ Region.ready .any ops listed := by
        unfold Region.ready
        rw [List.mem_filter]
        refine ⟨List.mem_range.2 hi, ?_⟩
        have h1 : listed.getD i true = false := by
          simp [hl] at hq ⊢; exact hq
        rw [h1, ho]
        simp only [Bool.not_false, Bool.true_and, Option.map_some, Option.getD_some]
        rw [Array.all_eq_true]
        intro k hk
        cases hb : Region.binds .any (ops[i]).after[k] with
        | false => rfl
        | true =>
          have hlt := hE i _ ho _ (Array.getElem_mem hk) hb
          have := ih _ hlt (by omega)
          simp [this]
      rw [h] at hmem
      cases hmem
theorem ready_spec {ops : Array Oper} {listed : Array Bool} (hs : listed.size = ops.size) {i : Nat} (h : i ∈ Region.ready .any ops listed) :
    ∃ o, ops[i]? = some o ∧ listed.getD i false = false ∧ ∀ e ∈ o.after, Region.binds .any e = true → listed.getD e.on false = true := by
  unfold Region.ready at h
  rw [List.mem_filter] at h
  obtain ⟨hi, h⟩ := h
  have hi := List.mem_range.1 hi
  have ho := Array.getElem?_eq_getElem hi
  refine ⟨_, ho, ?_, fun e he hb => ?_⟩
  · rw [Bool.and_eq_true] at h
    have hl : i < listed.size := by omega
    have h1 := h.1
    simp [hl] at h1 ⊢
    exact h1
  · rw [ho] at h
    simp only [Option.map_some, Option.getD_some, Bool.and_eq_true] at h
    have h2 := h.2
    rw [Array.all_eq_true] at h2
    obtain ⟨k, hk, rfl⟩ := Array.mem_iff_getElem.1 he
    have := h2 k hk
    rw [hb] at this
    simpa using this
end
end
end Go.Ev
