/-
  A verified evaluator of the model's code, part X (own work): no condition; the theorem 'sound' of its last part is what a claim uses.
-/
import Derived.Test.YtedjimkpmmacoaaGreatDoorEvW
namespace Go.Ev
set_option linter.all false
set_option linter.unusedVariables false
set_option linter.unusedSimpArgs false
set_option linter.unusedSectionVars false
set_option linter.unnecessarySimpa false
open Go Go.RowKit
variable [Tok] [Sym]
section
variable {P : Program} {B : Nat → Prop} {γ : Gh} {s : St} {w : World}

theorem putT_get {N : Nat} {dst : Option Tmp} {v : Value} {t t' : Tm} (h : putT N dst v t = some t') :
    (∀ d, Tr.get undef t' d = if dst = some d then v else Tr.get undef t d) ∧ ∀ d, dst = some d → d < N := by
  unfold putT at h
  split at h
  · injection h with h; subst h; exact ⟨fun d => by simp, fun d hd => by cases hd⟩
  · rename_i d0
    split at h
    · rename_i hd
      injection h with h; subst h
      refine ⟨fun d => ?_, fun d hdd => by injection hdd with hdd; exact hdd ▸ hd⟩
      rw [Tr.get_set]
      by_cases e : d = d0
      · subst e; simp
      · rw [if_neg e, if_neg (fun h => e (by injection h with h; exact h.symm))]
    · cases h

/-- What a step of the text's order leaves. -/
theorem step1_cases {self : Req → Res} {ops : Array Oper} {N : Nat} {o : Oper} {t : Tm} {s : St} {r : Tm × St} (h : step1 P self ops N o t s = some r) :
    (gv t ops o = false ∧ putT N o.dst undef t = some r.1 ∧ r.2 = s) ∨
    (gv t ops o = true ∧ ((∃ v, evOp P o.op (ov t) s = .val v r.2 ∧ putT N o.dst v t = some r.1) ∨ (evOp P o.op (ov t) s = .skip r.2 ∧ putT N o.dst undef t = some r.1) ∨
      ∃ f args v, evOp P o.op (ov t) s = .call f args ∧ self (.fn f args s) = .val v r.2 ∧ putT N o.dst v t = some r.1)) := by
  have hm : ∀ (x : Option Tm) (s' : St), x.map (fun t' => (t', s')) = some r → x = some r.1 ∧ r.2 = s' := by
    intro x s' hx
    cases x with
    | none => cases hx
    | some t' => injection hx with hx; subst hx; exact ⟨rfl, rfl⟩
  unfold step1 at h
  split at h
  · rename_i hg
    right
    refine ⟨hg, ?_⟩
    split at h
    · rename_i v s' he
      obtain ⟨h1, h2⟩ := hm _ _ h
      exact Or.inl ⟨v, by rw [h2]; exact he, h1⟩
    · rename_i s' he
      obtain ⟨h1, h2⟩ := hm _ _ h
      exact Or.inr (Or.inl ⟨by rw [h2]; exact he, h1⟩)
    · rename_i f args he
      split at h
      · rename_i v s' hs
        obtain ⟨h1, h2⟩ := hm _ _ h
        exact Or.inr (Or.inr ⟨f, args, v, he, by rw [h2]; exact hs, h1⟩)
      · cases h
    · cases h
  · rename_i hg
    left
    obtain ⟨h1, h2⟩ := hm _ _ h
    exact ⟨by simpa using hg, h1, h2⟩

theorem range_all {n : Nat} {p : Nat → Bool} (h : (List.range n).all p = true) {i : Nat} (hi : i < n) : p i = true :=
  List.all_eq_true.1 h i (List.mem_range.2 hi)

structure Drawn (P : Program) (sf : Req → Res) (ops : Array Oper) (N : Nat) (L : List (Tm × St)) : Prop where
  step : ∀ i o, ops[i]? = some o → step1 P sf ops N o (L.getD i dummy).1 (L.getD i dummy).2 = some (L.getD (i + 1) dummy)
  edge : ∀ j o, ops[j]? = some o → ∀ e ∈ o.after, Region.binds .any e = true → e.on < j
  pair : ∀ i j x y, i < j → ops[i]? = some x → ops[j]? = some y → tb ops i j = true ∨ (Oper.apart ops x y = true ∧ (isW P ops i → isW P ops j → isAlO y = true))
  al : ∀ j o i, ops[j]? = some o → isAlO o = true → i < ops.size → tb ops j i = true → ∀ j', j' < j → isW P ops j' → tb ops j' i = true
  read : ∀ i o, ops[i]? = some o → kOf P o.op = .read → gv (L.getD i dummy).1 ops o = true → ∀ m, m ≤ ops.size →
    (∀ j, isW P ops j → (tb ops j i = true → j < m) ∧ (tb ops i j = true → m ≤ j)) → rdOk P o (L.getD i dummy).1 (L.getD i dummy).2 (L.getD m dummy).2 = true

theorem lt_size {ops : Array Oper} {i : Nat} {o : Oper} (h : ops[i]? = some o) : i < ops.size := by
  rcases Nat.lt_or_ge i ops.size with h1 | h1
  · exact h1
  · rw [Array.getElem?_eq_none h1] at h; cases h

/-- What is no writer leaves the memory. -/
theorem stays1 {sf : Req → Res} {ops : Array Oper} {N : Nat} {L : List (Tm × St)}
    (hstep : ∀ i o, ops[i]? = some o → step1 P sf ops N o (L.getD i dummy).1 (L.getD i dummy).2 = some (L.getD (i + 1) dummy))
    (hown : ∀ i o, ops[i]? = some o → kOf P o.op = .read → gv (L.getD i dummy).1 ops o = true → rdOk P o (L.getD i dummy).1 (L.getD i dummy).2 (L.getD i dummy).2 = true)
    {i : Nat} {o : Oper} (ho : ops[i]? = some o) (hw : ¬ isW P ops i) : (L.getD (i + 1) dummy).2 = (L.getD i dummy).2 := by
  have hk : kOf P o.op ≠ .write := fun hk => hw ⟨o, ho, hk⟩
  rcases step1_cases (hstep i o ho) with ⟨_, _, hs⟩ | ⟨hg, hc⟩
  · exact hs
  · cases hko : kOf P o.op with
    | write => exact (hk hko).elim
    | pure =>
      rcases pure_op hko (L.getD i dummy).2 (ρ := ov (L.getD i dummy).1) with ⟨v, he, _⟩ | he
      · rcases hc with ⟨u, hu, _⟩ | ⟨hu, _⟩ | ⟨f, args, u, hu, _⟩
        · rw [he] at hu; injection hu with _ hu; exact hu.symm
        · rw [he] at hu; cases hu
        · rw [he] at hu; cases hu
      · rcases hc with ⟨u, hu, _⟩ | ⟨hu, _⟩ | ⟨f, args, u, hu, _⟩ <;> (rw [he] at hu; cases hu)
    | read =>
      have hr := hown i o ho hko hg
      unfold rdOk at hr
      split at hr
      · rename_i v s' u s'' he1 he2
        rw [Bool.and_eq_true] at hr
        have hn := Nat.eq_of_beq_eq_true hr.1
        have hsame := read_same hko he1 hn
        rcases hc with ⟨u, hu, _⟩ | ⟨hu, _⟩ | ⟨f, args, u, hu, _⟩
        · rw [he1] at hu; injection hu with _ hu; rw [← hu, hsame]
        · rw [he1] at hu; cases hu
        · rw [he1] at hu; cases hu
      · cases hr
/-- Each place has the memory of the last one at which it may have turned. -/
theorem back1 {sf : Req → Res} {ops : Array Oper} {N : Nat} {L : List (Tm × St)}
    (hstep : ∀ i o, ops[i]? = some o → step1 P sf ops N o (L.getD i dummy).1 (L.getD i dummy).2 = some (L.getD (i + 1) dummy))
    (hown : ∀ i o, ops[i]? = some o → kOf P o.op = .read → gv (L.getD i dummy).1 ops o = true → rdOk P o (L.getD i dummy).1 (L.getD i dummy).2 (L.getD i dummy).2 = true) :
    ∀ m, m ≤ ops.size → ∃ m0, m0 ≤ m ∧ startB P ops m0 = true ∧ (∀ j, isW P ops j → (j < m ↔ j < m0)) ∧ (L.getD m dummy).2 = (L.getD m0 dummy).2
  | 0, _ => ⟨0, Nat.le_refl _, rfl, fun _ _ => Iff.rfl, rfl⟩
  | m + 1, hm => by
    by_cases hw : isW P ops m
    · refine ⟨m + 1, Nat.le_refl _, ?_, fun _ _ => Iff.rfl, rfl⟩
      unfold startB
      rw [Nat.add_sub_cancel, (isWb_iff ops m).2 hw]
      simp
    · obtain ⟨m0, h1, h2, h3, h4⟩ := back1 hstep hown m (by omega)
      refine ⟨m0, by omega, h2, fun j hj => ?_, ?_⟩
      · rw [← h3 j hj]
        have : j ≠ m := fun e => hw (e ▸ hj)
        omega
      · rw [stays1 hstep hown (Array.getElem?_eq_getElem (by omega)) hw, h4]
theorem Drawn.of {sf : Req → Res} {ops : Array Oper} {N : Nat} {t : Tm} {L : List (Tm × St)} (h1 : drawOk P ops = true) (h2 : trc P sf ops N ops.toList t s = some L) (h3 : readersOk P ops L = true) :
    Drawn P sf ops N L ∧ L.getD 0 dummy = (t, s) := by
  obtain ⟨h0, hs⟩ := trc_spec _ _ _ _ h2
  unfold drawOk at h1
  rw [Bool.and_eq_true] at h1
  obtain ⟨hal, h1⟩ := h1
  refine ⟨⟨fun i o ho => hs i o (by simpa using ho), fun j o ho e he hb => ?_, fun i j x y hij hx hy => ?_, fun j o i ho hao hi ht j' hj' hw => ?_, fun i o ho hk hg m hm hc => ?_⟩, h0⟩
  · have := range_all h1 (lt_size ho)
    rw [Bool.and_eq_true] at this
    have h := this.1
    rw [ho] at h
    have := List.all_eq_true.1 h e (by simpa using he)
    rw [hb] at this
    simpa using this
  · have := range_all h1 (lt_size hy)
    rw [Bool.and_eq_true] at this
    have h := range_all this.2 hij
    unfold pairOk at h
    rw [hx, hy] at h
    simp only [Bool.or_eq_true, Bool.and_eq_true, Bool.not_eq_true'] at h
    rcases h with h | ⟨h, h'⟩
    · exact Or.inl h
    · refine Or.inr ⟨h, fun hw1 hw2 => ?_⟩
      rcases h' with h' | h'
      · rw [(isWb_iff ops i).2 hw1, (isWb_iff ops j).2 hw2] at h'
        cases h'
      · exact h'
  · unfold alOk at hal
    have h := range_all hal (lt_size ho)
    have hb : isAlb ops j = true := by unfold isAlb; rw [ho]; exact hao
    rw [hb] at h
    simp only [Bool.not_true, Bool.false_or] at h
    have h := range_all h hi
    rw [ht] at h
    simp only [Bool.not_true, Bool.false_or] at h
    have h := range_all h hj'
    rw [(isWb_iff ops j').2 hw] at h
    simpa using h
  · have hstep : ∀ i o, ops[i]? = some o → step1 P sf ops N o (L.getD i dummy).1 (L.getD i dummy).2 = some (L.getD (i + 1) dummy) := fun i o ho => hs i o (by simpa using ho)
    unfold readersOk at h3
    have hown : ∀ i o, ops[i]? = some o → kOf P o.op = .read → gv (L.getD i dummy).1 ops o = true → rdOk P o (L.getD i dummy).1 (L.getD i dummy).2 (L.getD i dummy).2 = true := by
      intro i o ho hk hg
      have h := range_all h3 (lt_size ho)
      rw [ho] at h
      simp only [hk, hg, Bool.not_true, Bool.false_or, Bool.and_eq_true] at h
      exact h.1
    have h := range_all h3 (lt_size ho)
    rw [ho] at h
    simp only [hk, hg, Bool.not_true, Bool.false_or, Bool.and_eq_true] at h
    obtain ⟨m0, hm0, hst, hwm, hsame⟩ := back1 hstep hown m hm
    have h := range_all h.2 (Nat.lt_succ_of_le (Nat.le_trans hm0 hm))
    have hcb : condB P ops i m0 = true := by
      unfold condB
      rw [List.all_eq_true]
      intro j _
      cases hw : isWb P ops j with
      | false => rfl
      | true =>
        have hwj := (isWb_iff ops j).1 hw
        obtain ⟨c1, c2⟩ := hc j hwj
        have hq := hwm j hwj
        simp only [Bool.not_true, Bool.false_or, Bool.and_eq_true, Bool.or_eq_true, Bool.not_eq_true', decide_eq_true_eq]
        refine ⟨?_, ?_⟩
        · cases hq' : tb ops j i with
          | false => exact Or.inl rfl
          | true => exact Or.inr (hq.1 (c1 hq'))
        · cases hq' : tb ops i j with
          | false => exact Or.inl rfl
          | true => exact Or.inr (by have := c2 hq'; omega)
    rw [hcb, hst] at h
    rw [hsame]
    simpa using h

section
variable {sf : Req → Res} {ops : Array Oper} {N : Nat} {L : List (Tm × St)}

theorem Drawn.tb_lt (h : Drawn P sf ops N L) : ∀ (j : Nat) (o : Oper), ops[j]? = some o → ∀ i, tb ops i j = true → i < j := by
  intro j
  induction j using Nat.strongRecOn with
  | _ j ih =>
    intro o ho i hi
    obtain ⟨e, he, hb, hq⟩ := before_get ops h.edge j o ho i hi
    have hlt := h.edge j o ho e he hb
    rcases hq with hq | hq
    · omega
    · have hs : e.on < ops.size := Nat.lt_trans hlt (lt_size ho)
      have := ih e.on hlt _ (Array.getElem?_eq_getElem hs) i hq
      omega

/-- What is no writer leaves the memory. -/
theorem Drawn.stays (h : Drawn P sf ops N L) {i : Nat} {o : Oper} (ho : ops[i]? = some o) (hw : ¬ isW P ops i) : (L.getD (i + 1) dummy).2 = (L.getD i dummy).2 := by
  have hk : kOf P o.op ≠ .write := fun hk => hw ⟨o, ho, hk⟩
  rcases step1_cases (h.step i o ho) with ⟨_, _, hs⟩ | ⟨hg, hc⟩
  · exact hs
  · cases hko : kOf P o.op with
    | write => exact (hk hko).elim
    | pure =>
      rcases pure_op hko (L.getD i dummy).2 (ρ := ov (L.getD i dummy).1) with ⟨v, he, _⟩ | he
      · rcases hc with ⟨u, hu, _⟩ | ⟨hu, _⟩ | ⟨f, args, u, hu, _⟩
        · rw [he] at hu; injection hu with _ hu; exact hu.symm
        · rw [he] at hu; cases hu
        · rw [he] at hu; cases hu
      · rcases hc with ⟨u, hu, _⟩ | ⟨hu, _⟩ | ⟨f, args, u, hu, _⟩ <;> (rw [he] at hu; cases hu)
    | read =>
      have hr := h.read i o ho hko hg i (Nat.le_of_lt (lt_size ho)) (fun j hj => by
        obtain ⟨oj, hoj, _⟩ := hj
        exact ⟨fun ht => h.tb_lt i o ho j ht, fun ht => Nat.le_of_lt (h.tb_lt j oj hoj i ht)⟩)
      unfold rdOk at hr
      split at hr
      · rename_i v s' u s'' he1 he2
        rw [Bool.and_eq_true] at hr
        have hn := Nat.eq_of_beq_eq_true hr.1
        have hsame := read_same hko he1 hn
        rcases hc with ⟨u, hu, _⟩ | ⟨hu, _⟩ | ⟨f, args, u, hu, _⟩
        · rw [he1] at hu; injection hu with _ hu; rw [← hu, hsame]
        · rw [he1] at hu; cases hu
        · rw [he1] at hu; cases hu
      · cases hr

theorem Drawn.sAgree' (h : Drawn P sf ops N L) (k : Nat) : ∀ (d : Nat), k + d ≤ ops.size → (∀ j, isW P ops j → (j < k ↔ j < k + d)) → (L.getD (k + d) dummy).2 = (L.getD k dummy).2
  | 0, _, _ => rfl
  | d + 1, hd, hw => by
    have hs : k + d < ops.size := by omega
    have hnw : ¬ isW P ops (k + d) := fun hq => by have := (hw _ hq).2 (by omega); omega
    rw [show k + (d + 1) = k + d + 1 from by omega, h.stays (Array.getElem?_eq_getElem hs) hnw]
    refine h.sAgree' k d (by omega) fun j hj => ⟨fun hq => by omega, fun hq => ?_⟩
    exact (hw j hj).2 (by omega)
theorem Drawn.sAgree (h : Drawn P sf ops N L) {k i : Nat} (hk : k ≤ ops.size) (hi : i ≤ ops.size) (hw : ∀ j, isW P ops j → (j < k ↔ j < i)) : (L.getD k dummy).2 = (L.getD i dummy).2 := by
  rcases Nat.le_total k i with hle | hle
  · obtain ⟨d, rfl⟩ : ∃ d, i = k + d := ⟨i - k, by omega⟩
    exact (h.sAgree' k d hi hw).symm
  · obtain ⟨d, rfl⟩ : ∃ d, k = i + d := ⟨k - i, by omega⟩
    exact h.sAgree' i d hk (fun j hj => (hw j hj).symm)

theorem Drawn.put (h : Drawn P sf ops N L) {i : Nat} {o : Oper} (ho : ops[i]? = some o) : ∃ v, putT N o.dst v (L.getD i dummy).1 = some (L.getD (i + 1) dummy).1 := by
  rcases step1_cases (h.step i o ho) with ⟨_, hp, _⟩ | ⟨_, ⟨v, _, hp⟩ | ⟨_, hp⟩ | ⟨f, args, v, _, _, hp⟩⟩
  · exact ⟨_, hp⟩
  · exact ⟨_, hp⟩
  · exact ⟨_, hp⟩
  · exact ⟨_, hp⟩
theorem Drawn.tAgree' (h : Drawn P sf ops N L) (x k : Nat) : ∀ (d : Nat), k + d ≤ ops.size → (∀ j o, ops[j]? = some o → o.dst = some x → (j < k ↔ j < k + d)) →
    Tr.get undef (L.getD (k + d) dummy).1 x = Tr.get undef (L.getD k dummy).1 x
  | 0, _, _ => rfl
  | d + 1, hd, hw => by
    have hs : k + d < ops.size := by omega
    have ho := Array.getElem?_eq_getElem hs
    obtain ⟨v, hp⟩ := h.put ho
    have hne : (ops[k + d]).dst ≠ some x := fun hq => by have := (hw _ _ ho hq).2 (by omega); omega
    rw [show k + (d + 1) = k + d + 1 from by omega, (putT_get hp).1 x, if_neg hne]
    refine h.tAgree' x k d (by omega) fun j o hj hd => ⟨fun hq => by omega, fun hq => ?_⟩
    exact (hw j o hj hd).2 (by omega)
theorem Drawn.tAgree (h : Drawn P sf ops N L) {x k i : Nat} (hk : k ≤ ops.size) (hi : i ≤ ops.size) (hw : ∀ j o, ops[j]? = some o → o.dst = some x → (j < k ↔ j < i)) :
    Tr.get undef (L.getD k dummy).1 x = Tr.get undef (L.getD i dummy).1 x := by
  rcases Nat.le_total k i with hle | hle
  · obtain ⟨d, rfl⟩ : ∃ d, i = k + d := ⟨i - k, by omega⟩
    exact (h.tAgree' x k d hi hw).symm
  · obtain ⟨d, rfl⟩ : ∃ d, k = i + d := ⟨k - i, by omega⟩
    exact h.tAgree' x i d hk (fun j o hj hd => (hw j o hj hd).symm)
end
end
end Go.Ev
