/-
  A verified evaluator of the model's code, part Y (own work): no condition; the theorem 'sound' of its last part is what a claim uses.
-/
import Derived.Test.YtpndjimajojnnaaEvX
namespace Go.Ev
set_option linter.all false
set_option linter.unusedVariables false
set_option linter.unusedSimpArgs false
set_option linter.unusedSectionVars false
set_option linter.unnecessarySimpa false
open Go Go.RowKit
variable [Tok] [Sym]
section
variable {P : Program} {B : Nat} {γ : Gh} {s : St} {w : World}

structure Inv (P : Program) (B : Nat) (γ : Gh) (s : St) (w : World) (ops : Array Oper) (N : Nat) (L : List (Tm × St)) (D : Nat → Prop) (a : Act) (w' : World) (m : Nat) (γ' : Gh) : Prop where
  closed : ∀ j o, ops[j]? = some o → D j → ∀ e ∈ o.after, Region.binds .any e = true → D e.on
  le : m ≤ ops.size
  mem : ∀ j, isW P ops j → (D j ↔ j < m)
  rel : R B γ' (L.getD m dummy).2 w'
  ext : Ext s.n γ γ'
  below : Below B w w'
  num : s.n ≤ (L.getD m dummy).2.n
  size : a.tmps.size = N
  defers : a.defers = []
  slot : ∀ d, ∃ k, k ≤ ops.size ∧ (∀ j o, ops[j]? = some o → o.dst = some d → (D j ↔ j < k)) ∧
    a.tmps.getD d undef = ren γ' (Tr.get undef (L.getD k dummy).1 d) ∧ Wf (L.getD m dummy).2.n (Tr.get undef (L.getD k dummy).1 d)

section
variable {sf : Req → Res} {ops : Array Oper} {N : Nat} {L : List (Tm × St)} {D : Nat → Prop} {a : Act} {w' : World} {m : Nat} {γ' : Gh}

/-- Of two operations at one slot the one is ahead of the other. -/
theorem Inv.prior (h : Drawn P sf ops N L) (hI : Inv P B γ s w ops N L D a w' m γ') {i : Nat} {o : Oper} (ho : ops[i]? = some o) (hDi : ¬ D i)
    (hpre : ∀ e ∈ o.after, Region.binds .any e = true → D e.on) {j : Nat} {x : Oper} (hx : ops[j]? = some x)
    (hc : (j < i → tb ops j i = true) ∧ (i < j → tb ops i j = true)) : D j ↔ j < i := by
  constructor
  · intro hj
    rcases Nat.lt_trichotomy j i with hlt | rfl | hlt
    · exact hlt
    · exact (hDi hj).elim
    · exact (hDi (before_closed ops h.edge D hI.closed j x hx (hI.closed j x hx hj) i (hc.2 hlt))).elim
  · intro hlt
    exact before_closed ops h.edge D hI.closed i o ho hpre j (hc.1 hlt)

theorem apart_looks {ops : Array Oper} {x y : Oper} (h : Oper.apart ops x y = true) :
    (∀ d, x.dst = some d → d ∉ y.looksAt ops) ∧ (∀ d, x.dst = some d → y.dst ≠ some d) ∧ (∀ d, y.dst = some d → d ∉ x.looksAt ops) := Oper.apart_spec h

theorem Inv.reads (h : Drawn P sf ops N L) (hI : Inv P B γ s w ops N L D a w' m γ') {i : Nat} {o : Oper} (ho : ops[i]? = some o) (hDi : ¬ D i)
    (hpre : ∀ e ∈ o.after, Region.binds .any e = true → D e.on) {d : Nat} (hd : d ∈ o.looksAt ops) :
    a.tmps.getD d undef = ren γ' (Tr.get undef (L.getD i dummy).1 d) ∧ Wf (L.getD m dummy).2.n (Tr.get undef (L.getD i dummy).1 d) := by
  obtain ⟨k, hk, hkd, hv, hw⟩ := hI.slot d
  have : Tr.get undef (L.getD k dummy).1 d = Tr.get undef (L.getD i dummy).1 d := by
    refine h.tAgree hk (Nat.le_of_lt (lt_size ho)) fun j x hx hxd => ?_
    rw [← hkd j x hx hxd]
    refine hI.prior h ho hDi hpre hx ⟨fun hlt => ?_, fun hlt => ?_⟩
    · rcases h.pair j i x o hlt hx ho with ht | ⟨ha, _⟩
      · exact ht
      · exact ((apart_looks ha).1 d hxd hd).elim
    · rcases h.pair i j o x hlt ho hx with ht | ⟨ha, _⟩
      · exact ht
      · exact ((apart_looks ha).2.2 d hxd hd).elim
  rw [← this]
  exact ⟨hv, hw⟩

theorem Inv.sameMem (h : Drawn P sf ops N L) (hI : Inv P B γ s w ops N L D a w' m γ') {i : Nat} {o : Oper} (ho : ops[i]? = some o) (hDi : ¬ D i)
    (hpre : ∀ e ∈ o.after, Region.binds .any e = true → D e.on) (hw : isW P ops i) : (L.getD m dummy).2 = (L.getD i dummy).2 ∧ ∀ j, isW P ops j → (D j ↔ j < i) := by
  have key : ∀ j, isW P ops j → (D j ↔ j < i) := by
    intro j hj
    obtain ⟨x, hx, hxw⟩ := hj
    refine hI.prior h ho hDi hpre hx ⟨fun hlt => ?_, fun hlt => ?_⟩
    · rcases h.pair j i x o hlt hx ho with ht | ⟨_, hn⟩
      · exact ht
      · exact (hn ⟨⟨x, hx, hxw⟩, hw⟩).elim
    · rcases h.pair i j o x hlt ho hx with ht | ⟨_, hn⟩
      · exact ht
      · exact (hn ⟨hw, ⟨x, hx, hxw⟩⟩).elim
  exact ⟨h.sAgree hI.le (Nat.le_of_lt (lt_size ho)) fun j hj => by rw [← hI.mem j hj, key j hj], key⟩

/-- One operation done. -/
theorem Inv.advance (h : Drawn P sf ops N L) (hI : Inv P B γ s w ops N L D a w' m γ') {i : Nat} {o : Oper} (ho : ops[i]? = some o) (hDi : ¬ D i)
    (hpre : ∀ e ∈ o.after, Region.binds .any e = true → D e.on) {v : Value} (hp : putT N o.dst v (L.getD i dummy).1 = some (L.getD (i + 1) dummy).1)
    {m' : Nat} {γ'' : Gh} {w'' : World} (hm : m' ≤ ops.size) (hmem : ∀ j, isW P ops j → ((D j ∨ j = i) ↔ j < m')) (hR : R B γ'' (L.getD m' dummy).2 w'')
    (hx : Ext (L.getD m dummy).2.n γ' γ'') (hb : Below B w' w'') (hn : (L.getD m dummy).2.n ≤ (L.getD m' dummy).2.n) (hv : Wf (L.getD m' dummy).2.n v) :
    Inv P B γ s w ops N L (fun j => D j ∨ j = i) (a.put o.dst (ren γ'' v)) w'' m' γ'' := by
  refine ⟨fun j x hx' hj e he hbn => ?_, hm, hmem, hR, hI.ext.trans hx hI.num, hI.below.trans hb, Nat.le_trans hI.num hn, ?_, ?_, fun d => ?_⟩
  · rcases hj with hj | rfl
    · exact Or.inl (hI.closed j x hx' hj e he hbn)
    · rw [ho] at hx'; injection hx' with hx'; subst hx'
      exact Or.inl (hpre e he hbn)
  · cases o.dst <;> simp [Act.put, hI.size]
  · cases o.dst <;> simp [Act.put, hI.defers]
  · obtain ⟨hg, hlt⟩ := putT_get hp
    by_cases hd : o.dst = some d
    · refine ⟨i + 1, lt_size ho, fun j x hx' hxd => ?_, ?_, ?_⟩
      · have key : j ≠ i → (D j ↔ j < i) := fun hne => hI.prior h ho hDi hpre hx' ⟨fun hl => by
            rcases h.pair j i x o hl hx' ho with ht | ⟨ha, _⟩
            · exact ht
            · exact ((apart_looks ha).2.1 d hxd hd).elim, fun hl => by
            rcases h.pair i j o x hl ho hx' with ht | ⟨ha, _⟩
            · exact ht
            · exact ((apart_looks ha).2.1 d hd hxd).elim⟩
        by_cases hji : j = i
        · subst hji; simp
        · rw [key hji]
          omega
      · rw [hg d, if_pos hd, hd]
        have hs : d < a.tmps.size := by rw [hI.size]; exact hlt d hd
        simp [Act.put, hs]
      · rw [hg d, if_pos hd]; exact hv
    · obtain ⟨k, hk, hkd, hva, hwf⟩ := hI.slot d
      refine ⟨k, hk, fun j x hx' hxd => ?_, ?_, Wf.mono hn _ hwf⟩
      · have hji : j ≠ i := by
          rintro rfl
          rw [ho] at hx'; injection hx' with hx'; subst hx'
          exact hd hxd
        rw [← hkd j x hx' hxd]
        simp [hji]
      · rw [ren_ext hx _ hwf, ← hva]
        cases hq : o.dst with
        | none => rfl
        | some e =>
          have hne : e ≠ d := fun he => hd (by rw [hq, he])
          simp [Act.put, Array.getElem?_setIfInBounds_ne hne]

theorem ready_nil {ops : Array Oper} {listed : Array Bool} (hs : listed.size = ops.size) (hE : ∀ j o, ops[j]? = some o → ∀ e ∈ o.after, Region.binds .any e = true → e.on < j)
    (h : Region.ready .any ops listed = []) : ∀ i, i < ops.size → listed.getD i false = true := by
  intro i
  induction i using Nat.strongRecOn with
  | _ i ih =>
    intro hi
    cases hq : listed.getD i false with
    | true => rfl
    | false =>
      exfalso
      have hl : i < listed.size := by omega
      have ho := Array.getElem?_eq_getElem hi
      have hmem : i ∈ Region.ready .any ops listed := by
        unfold Region.ready
        rw [List.mem_filter]
        refine ⟨List.mem_range.2 hi, ?_⟩
        have h1 : listed.getD i true = false := by
          simp [hl] at hq ⊢; exact hq
        rw [h1, ho]
        simp only [Bool.not_false, Bool.true_and, Option.map_some, Option.getD_some]
        rw [Array.all_eq_true]
        intro k hk
        cases hb : Region.binds .any (ops[i]).after[k] with
        | false => rfl
        | true =>
          have hlt := hE i _ ho _ (Array.getElem_mem hk) hb
          have := ih _ hlt (by omega)
          simp [this]
      rw [h] at hmem
      cases hmem
theorem ready_spec {ops : Array Oper} {listed : Array Bool} (hs : listed.size = ops.size) {i : Nat} (h : i ∈ Region.ready .any ops listed) :
    ∃ o, ops[i]? = some o ∧ listed.getD i false = false ∧ ∀ e ∈ o.after, Region.binds .any e = true → listed.getD e.on false = true := by
  unfold Region.ready at h
  rw [List.mem_filter] at h
  obtain ⟨hi, h⟩ := h
  have hi := List.mem_range.1 hi
  have ho := Array.getElem?_eq_getElem hi
  refine ⟨_, ho, ?_, fun e he hb => ?_⟩
  · rw [Bool.and_eq_true] at h
    have hl : i < listed.size := by omega
    have h1 := h.1
    simp [hl] at h1 ⊢
    exact h1
  · rw [ho] at h
    simp only [Option.map_some, Option.getD_some, Bool.and_eq_true] at h
    have h2 := h.2
    rw [Array.all_eq_true] at h2
    obtain ⟨k, hk, rfl⟩ := Array.mem_iff_getElem.1 he
    have := h2 k hk
    rw [hb] at this
    simpa using this
end
end
end Go.Ev
