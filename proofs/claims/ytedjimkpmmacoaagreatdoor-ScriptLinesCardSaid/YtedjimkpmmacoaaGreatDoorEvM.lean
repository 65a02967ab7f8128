/-
  A verified evaluator of the model's code, part M (own work): no condition; the theorem 'sound' of its last part is what a claim uses.
-/
import Derived.Test.YtedjimkpmmacoaaGreatDoorEvU
namespace Go.Ev
set_option linter.all false
set_option linter.unusedVariables false
set_option linter.unusedSimpArgs false
set_option linter.unusedSectionVars false
set_option linter.unnecessarySimpa false
open Go Go.RowKit
variable [Tok] [Sym]
/-! a call that hangs on nothing, reckoned once: its objects are laid anew behind any state -/
mutual
noncomputable def mapB (f : Nat → Nat) : Value → Value
  | .pointer (some a) => .pointer (some ⟨f a.block, a.off, none⟩)
  | .slice (some a) l c => .slice (some ⟨f a.block, a.off, none⟩) l c
  | .func fn ⟨x⟩ ⟨y⟩ => .func fn ⟨mapBL f x⟩ ⟨mapBL f y⟩
  | .iface t v => .iface t (mapB f v)
  | .agg ⟨c⟩ => .agg ⟨mapBL f c⟩
  | .tuple ⟨c⟩ => .tuple ⟨mapBL f c⟩
  | v => v
noncomputable def mapBL (f : Nat → Nat) : List Value → List Value
  | [] => []
  | v :: l => mapB f v :: mapBL f l
end
mutual
/-- No maps, no ends of open objects; places below m alone. -/
noncomputable def okB (m : Nat) : Value → Bool
  | .pointer (some a) => Nat.ble (a.block + 1) m
  | .slice (some a) _ _ => Nat.ble (a.block + 1) m
  | .slice none _ c => Nat.beq c 0
  | .func _ ⟨x⟩ ⟨y⟩ => okBL m x && okBL m y
  | .iface _ v => okB m v
  | .agg ⟨c⟩ => okBL m c
  | .tuple ⟨c⟩ => okBL m c
  | .map (some _) => false
  | .chan (some _) => false
  | _ => true
noncomputable def okBL (m : Nat) : List Value → Bool
  | [] => true
  | v :: l => okB m v && okBL m l
end
def Alike (m : Nat) (f g : Nat → Nat) (γ δ : Gh) : Prop := ∀ i, i < m → γ.blk (f i) = δ.blk (g i) ∧ γ.off (f i) = δ.off (g i) ∧ γ.ext (f i) = δ.ext (g i)
mutual
theorem ren_mapB {m : Nat} {f g : Nat → Nat} {γ δ : Gh} (h : Alike m f g γ δ) : ∀ v, okB m v = true → ren γ (mapB f v) = ren δ (mapB g v)
  | .pointer (some a), hv => by
    have hb : a.block < m := Nat.le_of_ble_eq_true hv
    simp [mapB, ren, Gh.at, (h _ hb).1, (h _ hb).2.1]
  | .pointer none, _ => rfl
  | .slice (some a) l c, hv => by
    have hb : a.block < m := Nat.le_of_ble_eq_true hv
    simp [mapB, ren, Gh.at, (h _ hb).1, (h _ hb).2.1, (h _ hb).2.2]
  | .slice none l c, hv => by
    have hc : c = 0 := Nat.eq_of_beq_eq_true hv
    subst hc; rfl
  | .func fn ⟨x⟩ ⟨y⟩, hv => by
    have hv : (okBL m x && okBL m y) = true := hv
    rw [Bool.and_eq_true] at hv
    simp only [mapB, ren]; rw [renL_mapB h x hv.1, renL_mapB h y hv.2]
  | .iface t v, hv => by simp only [mapB, ren]; rw [ren_mapB h v hv]
  | .agg ⟨c⟩, hv => by simp only [mapB, ren]; rw [renL_mapB h c hv]
  | .tuple ⟨c⟩, hv => by simp only [mapB, ren]; rw [renL_mapB h c hv]
  | .map (some i), hv => by cases hv
  | .chan (some i), hv => by cases hv
  | .map none, _ | .chan none, _ => rfl
  | .complex _ _ _, _ | .float _ _, _ => rfl
  | .bool _, _ | .int _ _, _ | .string _, _ | .nilFunc, _ | .nilIface, _ => rfl
theorem renL_mapB {m : Nat} {f g : Nat → Nat} {γ δ : Gh} (h : Alike m f g γ δ) : ∀ l, okBL m l = true → renL γ (mapBL f l) = renL δ (mapBL g l)
  | [], _ => rfl
  | v :: l, hv => by
    have hv : (okB m v && okBL m l) = true := hv
    rw [Bool.and_eq_true] at hv
    simp only [mapBL, renL]; rw [ren_mapB h v hv.1, renL_mapB h l hv.2]
end
mutual
theorem wf_mapB {m N : Nat} {f : Nat → Nat} (h : ∀ i, i < m → f i < N) : ∀ v, okB m v = true → Wf N (mapB f v)
  | .pointer (some a), hv => h _ (Nat.le_of_ble_eq_true hv)
  | .pointer none, _ => trivial
  | .slice (some a) l c, hv => h _ (Nat.le_of_ble_eq_true hv)
  | .slice none l c, hv => Or.inl (Nat.eq_of_beq_eq_true hv)
  | .func fn ⟨x⟩ ⟨y⟩, hv => by
    have hv : (okBL m x && okBL m y) = true := hv
    rw [Bool.and_eq_true] at hv
    exact ⟨wfL_mapB h x hv.1, wfL_mapB h y hv.2⟩
  | .iface t v, hv => wf_mapB h v hv
  | .agg ⟨c⟩, hv => wfL_mapB h c hv
  | .tuple ⟨c⟩, hv => wfL_mapB h c hv
  | .map (some i), hv => by cases hv
  | .chan (some i), hv => by cases hv
  | .map none, _ | .chan none, _ => trivial
  | .complex _ _ _, _ | .float _ _, _ => trivial
  | .bool _, _ | .int _ _, _ | .string _, _ | .nilFunc, _ | .nilIface, _ => trivial
theorem wfL_mapB {m N : Nat} {f : Nat → Nat} (h : ∀ i, i < m → f i < N) : ∀ l, okBL m l = true → WfL N (mapBL f l)
  | [], _ => trivial
  | v :: l, hv => by
    have hv : (okB m v && okBL m l) = true := hv
    rw [Bool.and_eq_true] at hv
    exact ⟨wf_mapB h v hv.1, wfL_mapB h l hv.2⟩
end
theorem mapBL_eq (f : Nat → Nat) (l : List Value) : mapBL f l = l.map (mapB f) := by
  induction l with
  | nil => rfl
  | cons v l ih => simp [mapBL, ih]
theorem okBL_iff (m : Nat) (l : List Value) : okBL m l = true ↔ ∀ v ∈ l, okB m v = true := by
  induction l with
  | nil => simp [okBL]
  | cons v l ih => simp [okBL, ih]

/-- An object that is laid anew: its number in the reckoned state, what it is, its cells; places are numbers of objects ahead of it. -/
structure NO where
  src : Nat
  elem : TypeId
  sz : Nat
  raw : Bool
  opn : Bool
  vs : List Value
noncomputable def layOne (b : Nat) (s : St) (o : NO) : St := s.mkR o.raw o.elem o.sz o.opn (mapBL (fun i => b + i) o.vs)
noncomputable def layAll (s : St) (l : List NO) : St := l.foldl (layOne s.n) s
/-- Whether object o, the j-th, is what the reckoned state has at its number. -/
noncomputable def chkOne (s : St) (src : Nat → Nat) (j : Nat) (o : NO) : Bool :=
  (s.obj o.src).live && (Nat.beq (s.obj o.src).elem o.elem && (Nat.beq (s.obj o.src).sz o.sz && ((s.obj o.src).raw == o.raw && ((s.obj o.src).opn == o.opn && (Nat.beq (s.obj o.src).len o.vs.length &&
    (okBL j o.vs && veqL (mapBL src o.vs) ((List.range o.vs.length).map (Tr.get undef (s.obj o.src).cells))))))))
noncomputable def chkAll (s : St) (src inv : Nat → Nat) : Nat → List NO → Bool
  | _, [] => true
  | j, o :: l => chkOne s src j o && (Nat.beq (src j) o.src && (Nat.beq (inv o.src) j && chkAll s src inv (j + 1) l))
structure Laid (B : Nat → Prop) (γ : Gh) (s : St) (w' : World) (δ : Gh) (src : Nat → Nat) (j : Nat) (γj : Gh) (sj : St) : Prop where
  rel : R B γj sj w'
  num : sj.n = s.n + j
  ext : Ext s.n γ γj
  like : Alike j (fun i => s.n + i) src γj δ
  old : ∀ i, (sj.obj i).live = true → i < s.n → (s.obj i).live = true
section
variable {P : Program} {B : Nat → Prop} {γ δ : Gh} {s s' : St} {w w' : World} {src inv : Nat → Nat}
theorem Laid.one {j : Nat} {γj : Gh} {sj : St} {o : NO} {B' : Nat → Prop} (hR' : R B' δ s' w') (hBB : ∀ k, B k → B' k) (hlb : ∀ i, (s.obj i).live = true → B' (γ.blk i)) (hbd : ∀ k, B k → k < w'.heap.size) (h : Laid B γ s w' δ src j γj sj)
    (hc : chkOne s' src j o = true) (hs : src j = o.src) (hd : ∀ i, i < j → src i ≠ o.src) (hlive : ∀ i, i < j → (s'.obj (src i)).live = true) :
    ∃ γ'', Laid B γ s w' δ src (j + 1) γ'' (layOne s.n sj o) := by
  unfold chkOne at hc
  simp only [Bool.and_eq_true, beq_iff_eq] at hc
  obtain ⟨h1, h2, h3, h4, h5, h6, h7, h8⟩ := hc
  have h2 := Nat.eq_of_beq_eq_true h2
  have h3 := Nat.eq_of_beq_eq_true h3
  have h6 := Nat.eq_of_beq_eq_true h6
  have h8 := veqL_spec _ _ h8
  obtain ⟨c, fz, q1, q2, q3, q4⟩ := hR'.obj _ h1
  have hlow : ¬ B' (δ.blk o.src) := hR'.low _ h1
  have hcell : ∀ k, k < o.vs.length → mapB src (o.vs.getD k undef) = Tr.get undef (s'.obj o.src).cells k := by
    intro k hk
    have e1 : (mapBL src o.vs)[k]? = some (mapB src (o.vs.getD k undef)) := by
      rw [mapBL_eq, List.getElem?_map, List.getD, List.getElem?_eq_getElem hk]; rfl
    rw [h8, List.getElem?_map, List.getElem?_range hk] at e1
    injection e1 with e1; exact e1.symm
  have hok := (okBL_iff j o.vs).1 h7
  have hlen : (mapBL (fun i => s.n + i) o.vs).length = o.vs.length := by rw [mapBL_eq, List.length_map]
  have hvk : ∀ k, k < o.vs.length → (mapBL (fun i => s.n + i) o.vs).getD k undef = mapB (fun i => s.n + i) (o.vs.getD k undef) := by
    intro k hk
    rw [mapBL_eq, List.getD, List.getElem?_map, List.getElem?_eq_getElem hk, List.getD, List.getElem?_eq_getElem hk]; rfl
  have hmem : ∀ k, k < o.vs.length → o.vs.getD k undef ∈ o.vs := by
    intro k hk; rw [List.getD, List.getElem?_eq_getElem hk]; exact List.getElem_mem _
  have hnb : ∀ i, (sj.obj i).live = true → γj.blk i ≠ δ.blk o.src := by
    intro i hi
    rcases Nat.lt_or_ge i s.n with hlt | hge
    · rw [h.ext.blk i hlt]
      intro e
      exact hlow (e ▸ hlb i (h.old i hi hlt))
    · have hij : i - s.n < j := by have := h.rel.lt i hi; rw [h.num] at this; omega
      have this : γj.blk (s.n + (i - s.n)) = δ.blk (src (i - s.n)) := (h.like (i - s.n) hij).1
      rw [show s.n + (i - s.n) = i from by omega] at this
      rw [this]
      intro e
      exact hd _ hij (hR'.inj _ _ (hlive _ hij) h1 e)
  have hR2 := h.rel.more (w' := w') (elem := o.elem) (sz := o.sz) (raw := o.raw) (opn := o.opn) (vs := mapBL (fun i => s.n + i) o.vs) (b := δ.blk o.src) (o := δ.off o.src) (e := δ.ext o.src) (c := c) (fz := fz)
    (fun i hi => ⟨rfl, hnb i hi⟩) (fun i hi => rfl) (by rw [← h2]; exact q1) (by rw [← h4]; exact q2) (by rw [hlen, ← h6, ← h3]; exact q3)
    (fun k hk => by
      rw [hlen] at hk
      rw [hvk k hk, q4 k (by rw [h6]; exact hk), ← hcell k hk, ren_mapB h.like _ (hok _ (hmem k hk))])
    (fun v hv => by
      rw [mapBL_eq] at hv
      obtain ⟨x, hx, rfl⟩ := List.mem_map.1 hv
      exact wf_mapB (fun i hi => by rw [h.num]; omega) x (hok x hx))
    (fun ho => hR'.cl _ h1 (by rw [h5]; exact ho))
    (fun hB => hlow (hBB _ hB))
    hbd
  have hx := Ext.put γj sj.n (δ.blk o.src) (δ.off o.src) (δ.ext o.src)
  refine ⟨_, hR2, by show sj.n + 1 = _; rw [h.num]; omega, h.ext.trans hx (by rw [h.num]; omega), fun i hi => ?_, fun i hi hlt => ?_⟩
  · rcases Nat.lt_or_ge i j with hij | hij
    · have hb : s.n + i < sj.n := by rw [h.num]; omega
      have := h.like i hij
      exact ⟨(hx.blk _ hb).trans this.1, (hx.off _ hb).trans this.2.1, (hx.ext _ hb).trans this.2.2⟩
    · have : i = j := by omega
      subst this
      rw [hs]
      have : s.n + i = sj.n := h.num.symm
      simp only [this]
      simp [Gh.put]
  · have hob : (sj.mkR o.raw o.elem o.sz o.opn (mapBL (fun i => s.n + i) o.vs)).obj i = sj.obj i := by
      rw [mkR_obj, if_neg (by rw [h.num]; omega)]
    refine h.old i ?_ hlt
    rw [← hob]; exact hi
theorem Laid.all {B' : Nat → Prop} (hR' : R B' δ s' w') (hBB : ∀ k, B k → B' k) (hlb : ∀ i, (s.obj i).live = true → B' (γ.blk i)) (hbd : ∀ k, B k → k < w'.heap.size) : ∀ (l : List NO) (j : Nat) (γj : Gh) (sj : St), Laid B γ s w' δ src j γj sj → chkAll s' src inv j l = true → (∀ i, i < j → (s'.obj (src i)).live = true) → (∀ i, i < j → inv (src i) = i) →
    ∃ γ'', Laid B γ s w' δ src (j + l.length) γ'' (l.foldl (layOne s.n) sj)
  | [], j, γj, sj, h, _, _, _ => ⟨γj, h⟩
  | o :: l, j, γj, sj, h, hc, hl, hi => by
    simp only [chkAll, Bool.and_eq_true] at hc
    obtain ⟨h1, h2, h3, h4⟩ := hc
    have h2 := Nat.eq_of_beq_eq_true h2
    have h3 := Nat.eq_of_beq_eq_true h3
    have hd : ∀ i, i < j → src i ≠ o.src := by
      intro i hij e
      have := hi i hij
      rw [e, h3] at this
      omega
    have hlv : (s'.obj o.src).live = true := by
      unfold chkOne at h1; rw [Bool.and_eq_true] at h1; exact h1.1
    obtain ⟨γ1, hL⟩ := Laid.one hR' hBB hlb hbd h h1 h2 hd hl
    obtain ⟨γ2, hL2⟩ := Laid.all hR' hBB hlb hbd l (j + 1) γ1 _ hL h4 (fun i hi => by
      rcases Nat.lt_or_ge i j with hij | hij
      · exact hl i hij
      · have : i = j := by omega
        subst this; rw [h2]; exact hlv) (fun i hij => by
      rcases Nat.lt_or_ge i j with hij' | hij'
      · exact hi i hij'
      · have : i = j := by omega
        subst this; rw [h2]; exact h3)
    exact ⟨γ2, by rw [List.length_cons, show j + (l.length + 1) = j + 1 + l.length from by omega]; exact hL2⟩
/-- What is reckoned, held against what is laid. -/
noncomputable def chkRun (src inv : Nat → Nat) (lv : Value) (l : List NO) : Res → Bool
  | .val v s => chkAll s src inv 0 l && (okB l.length lv && veq (mapB src lv) v)
  | _ => false
theorem memo_ok {orc : Orc} (hs : SymOk P) (ho : OrcOk P orc) (hm : P.follows .mixedOrders = true) {n g : Nat} {args : List Value} (ha : ∀ v ∈ args, Wf 0 v) {lv : Value} {l : List NO}
    (h : chkRun src inv lv l (runF P orc n (.fn g args st0)) = true) (hR : R B γ s w) :
    Calls P g (args.map (ren γ)).toArray w (RetOk B γ s w (mapB (fun i => s.n + i) lv) (layAll s l)) := by
  rw [runF_eq] at h
  unfold chkRun at h
  split at h
  case h_2 => cases h
  rename_i v s' hres
  rw [Bool.and_eq_true, Bool.and_eq_true] at h
  obtain ⟨hc, hok, hv⟩ := h
  have hv := veq_spec _ _ hv
  have hcall := (sound hs ho hm n).1.2 g args st0 v s' hres (fun k => k < w.heap.size) γ w (R.zero γ w) ha
  refine hcall.mono ?_
  rintro e w' ⟨δ, rfl, _, hR', _, hb, _⟩
  have h0 : Laid B γ s w' δ src 0 γ s := ⟨hR.of_below hb.below, rfl, Ext.refl _ _, fun i hi => (Nat.not_lt_zero _ hi).elim, fun _ hi _ => hi⟩
  obtain ⟨γ2, hL⟩ := Laid.all hR' hR.bnd (fun i hi => hR.blk_lt hi) (fun k hk => Nat.lt_of_lt_of_le (hR.bnd k hk) hb.size) l 0 γ s h0 hc (fun i hi => (Nat.not_lt_zero _ hi).elim) (fun i hi => (Nat.not_lt_zero _ hi).elim)
  rw [Nat.zero_add] at hL
  refine ⟨γ2, ?_, hL.ext, hL.rel, ?_, hb.mono hR.bnd, ?_⟩
  · rw [← hv, ren_mapB hL.like lv hok]
  · refine wf_mapB (fun i hi => ?_) lv hok
    have hn : (layAll s l).n = s.n + l.length := hL.num
    omega
  · have hn : (layAll s l).n = s.n + l.length := hL.num
    omega
end
structure Memo where
  g : Nat
  args : List Value
  v : Value
  l : List NO
noncomputable def lookM : List Memo → FuncId → List Value → Option Memo
  | [], _, _ => none
  | m :: l, g, args => cond (Nat.beq m.g g && veqL m.args args) (some m) (lookM l g args)
theorem lookM_spec : ∀ (l : List Memo) (g : FuncId) (args : List Value) (m : Memo), lookM l g args = some m → m ∈ l ∧ m.g = g ∧ m.args = args
  | [], _, _, _, h => by cases h
  | x :: l, g, args, m, h => by
    unfold lookM at h
    cases hq : (Nat.beq x.g g && veqL x.args args) with
    | true =>
      rw [hq] at h
      injection h with h
      subst h
      rw [Bool.and_eq_true] at hq
      exact ⟨List.mem_cons_self .., Nat.eq_of_beq_eq_true hq.1, veqL_spec _ _ hq.2⟩
    | false =>
      rw [hq] at h
      obtain ⟨h1, h2⟩ := lookM_spec l g args m h
      exact ⟨List.mem_cons_of_mem _ h1, h2⟩
noncomputable def memoR (k : Option (Value × St)) (s : St) (m : Option Memo) : Option (Value × St) := Option.rec (motive := fun _ => Option (Value × St)) k (fun m => some (mapB (fun i => s.n + i) m.v, layAll s m.l)) m
noncomputable def orcMemo (ms : List Memo) (o : Orc) : Orc := fun g args s => memoR (o g args s) s (lookM ms g args)
theorem orcMemo_ok {P : Program} {ms : List Memo} {o : Orc} (ho : OrcOk P o) (hm : ∀ m ∈ ms, ∀ B γ s w, R B γ s w → Calls P m.g (m.args.map (ren γ)).toArray w (RetOk B γ s w (mapB (fun i => s.n + i) m.v) (layAll s m.l))) : OrcOk P (orcMemo ms o) := by
  intro g args s v s' h B γ w hR ha
  unfold orcMemo at h
  cases hq : lookM ms g args with
  | none => rw [hq] at h; exact ho g args s v s' h B γ w hR ha
  | some m =>
    rw [hq] at h
    obtain ⟨h1, rfl, rfl⟩ := lookM_spec _ _ _ _ hq
    injection h with h
    injection h with h2 h3
    subst h2 h3
    exact hm m h1 B γ s w hR
/-! a run cut in its midst: behind a piece of code the state is laid anew -/
section
variable {P : Program} {B : Nat → Prop} {γ δ : Gh} {s s' : St} {w w' : World} {src inv : Nat → Nat}
theorem R.empty (hB : ∀ k, B k → k < w.heap.size) : R B γ st0 w := by
  have h := R.zero γ w
  exact ⟨h.lt, h.obj, h.wf, h.cl, h.inj, fun i hi => (Nat.not_lt_zero _ (h.lt i hi)).elim, hB, ⟨h.m.lt, h.m.obj, h.m.wf, h.m.inj, fun i hi => (Nat.not_lt_zero _ (h.m.lt i hi)).elim⟩⟩
/-- What is reckoned, laid anew from nothing. -/
theorem R.relay {l : List NO} (hR : R B δ s' w') (h : chkAll s' src inv 0 l = true) : ∃ γ', R B γ' (layAll st0 l) w' ∧ (layAll st0 l).n = l.length ∧ Alike l.length (fun i => 0 + i) src γ' δ := by
  have h0 : Laid B γ0 st0 w' δ src 0 γ0 st0 := ⟨R.empty hR.bnd, rfl, Ext.refl _ _, fun i hi => (Nat.not_lt_zero _ hi).elim, fun _ hi _ => hi⟩
  have hz := R.zero γ0 w'
  obtain ⟨γ2, hL⟩ := Laid.all hR (fun k hk => hk) (fun i hi => (Nat.not_lt_zero _ (hz.lt i hi)).elim) hR.bnd l 0 γ0 st0 h0 h (fun i hi => (Nat.not_lt_zero _ hi).elim) (fun i hi => (Nat.not_lt_zero _ hi).elim)
  rw [Nat.zero_add] at hL
  exact ⟨γ2, hL.rel, by have := hL.num; exact this.trans (Nat.zero_add _), hL.like⟩
/-- The temporaries and the state behind a piece of code, held against what is laid. -/
noncomputable def chkCode (src inv : Nat → Nat) (tl : List Value) (l : List NO) (N : Nat) : Res → Bool
  | .fin .normal t s => chkAll s src inv 0 l && (Nat.beq tl.length N && (okBL l.length tl && veqL (mapBL src tl) ((List.range N).map (Tr.get undef t))))
  | _ => false
theorem code_chunk {orc : Orc} (hs : SymOk P) (ho : OrcOk P orc) (hm : P.follows .mixedOrders = true) {n N : Nat} {c : Code} {t : Tm} {tl : List Value} {l : List NO} {a : Act} {Q : Exit → Act → World → Prop}
    (h : chkCode src inv tl l N (runF P orc n (.code c N t s)) = true) (hR : R B γ s w) (hT : TR γ s.n N t a)
    (hQ : ∀ γ' a' w', R B γ' (layAll st0 l) w' → TR γ' l.length N (put (mapBL (fun i => 0 + i) tl) 0 .leaf) a' → Fr B w w' → Q .normal a' w') : c.wp P Q a w := by
  rw [runF_eq] at h
  unfold chkCode at h
  split at h
  case h_2 => cases h
  rename_i t' s' hres
  simp only [Bool.and_eq_true] at h
  obtain ⟨hc, hlen, hok, hv⟩ := h
  have hlen := Nat.eq_of_beq_eq_true hlen
  have hv := veqL_spec _ _ hv
  have hw := (sound hs ho hm n).2.1 c N t s .normal t' s' hres B γ w a hR hT
  refine wp_mono hw ?_
  rintro e a' w' ⟨rfl, δ, hT', hx, hR', hb, hn⟩
  obtain ⟨γ2, hR2, hn2, hlike⟩ := hR'.relay hc
  refine hQ γ2 a' w' hR2 ⟨hT'.size, fun i => ?_, fun i => ?_, hT'.defers⟩ hb
  · rw [hT'.val i]
    by_cases hi : i < N
    · have e1 : (mapBL src tl)[i]? = some (mapB src (tl.getD i undef)) := by
        rw [mapBL_eq, List.getElem?_map, List.getD, List.getElem?_eq_getElem (by omega)]; rfl
      rw [hv, List.getElem?_map, List.getElem?_range hi] at e1
      injection e1 with e1
      rw [e1, put_get, if_pos (by rw [mapBL_eq, List.length_map]; omega), Nat.sub_zero]
      have e2 : (mapBL (fun i => 0 + i) tl).getD i undef = mapB (fun i => 0 + i) (tl.getD i undef) := by
        rw [mapBL_eq, List.getD, List.getElem?_map, List.getElem?_eq_getElem (by omega), List.getD, List.getElem?_eq_getElem (by omega)]; rfl
      rw [e2]
      exact (ren_mapB hlike _ ((okBL_iff _ tl).1 hok _ (by rw [List.getD, List.getElem?_eq_getElem (by omega)]; exact List.getElem_mem _))).symm
    · have e0 : a'.tmps.getD i undef = undef := by
        have := hT'.size
        simp [Array.getD, this, hi]
      have e1 := hT'.val i
      rw [← e1, e0, put_get, if_neg (by rw [mapBL_eq, List.length_map]; omega)]
      rfl
  · rw [put_get]
    split
    · rename_i hi
      rw [mapBL_eq, List.length_map] at hi
      have e2 : (mapBL (fun i => 0 + i) tl).getD (i - 0) undef = mapB (fun i => 0 + i) (tl.getD i undef) := by
        rw [Nat.sub_zero, mapBL_eq, List.getD, List.getElem?_map, List.getElem?_eq_getElem (by omega), List.getD, List.getElem?_eq_getElem (by omega)]; rfl
      rw [e2]
      exact wf_mapB (fun i hi => by omega) _ ((okBL_iff _ tl).1 hok _ (by rw [List.getD, List.getElem?_eq_getElem (by omega)]; exact List.getElem_mem _))
    · trivial
end
end Go.Ev
