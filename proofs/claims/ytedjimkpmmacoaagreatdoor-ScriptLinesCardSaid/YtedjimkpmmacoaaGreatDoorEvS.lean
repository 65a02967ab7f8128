/-
  A verified evaluator of the model's code, part S (own work): no condition; the theorem 'sound' of its last part is what a claim uses.
-/
import Derived.Test.YtedjimkpmmacoaaGreatDoorEvM
namespace Go.Ev
set_option linter.all false
set_option linter.unusedVariables false
set_option linter.unusedSimpArgs false
set_option linter.unusedSectionVars false
set_option linter.unnecessarySimpa false
open Go Go.RowKit
variable [Tok] [Sym]
/-! a call in the midst of a run, reckoned once: its objects are found in the state as it stands, and turned there -/
mutual
theorem mapB_congr {m : Nat} {f g : Nat → Nat} (h : ∀ i, i < m → f i = g i) : ∀ v, okB m v = true → mapB f v = mapB g v
  | .pointer (some a), hv => by
    have hb : a.block < m := Nat.le_of_ble_eq_true hv
    simp [mapB, h _ hb]
  | .pointer none, _ => rfl
  | .slice (some a) l c, hv => by
    have hb : a.block < m := Nat.le_of_ble_eq_true hv
    simp [mapB, h _ hb]
  | .slice none l c, _ => rfl
  | .func fn ⟨x⟩ ⟨y⟩, hv => by
    have hv : (okBL m x && okBL m y) = true := hv
    rw [Bool.and_eq_true] at hv
    simp only [mapB]; rw [mapBL_congr h x hv.1, mapBL_congr h y hv.2]
  | .iface t v, hv => by simp only [mapB]; rw [mapB_congr h v hv]
  | .agg ⟨c⟩, hv => by simp only [mapB]; rw [mapBL_congr h c hv]
  | .tuple ⟨c⟩, hv => by simp only [mapB]; rw [mapBL_congr h c hv]
  | .map (some i), hv => by cases hv
  | .chan (some i), hv => by cases hv
  | .map none, _ | .chan none, _ => rfl
  | .complex _ _ _, _ | .float _ _, _ => rfl
  | .bool _, _ | .int _ _, _ | .string _, _ | .nilFunc, _ | .nilIface, _ => rfl
theorem mapBL_congr {m : Nat} {f g : Nat → Nat} (h : ∀ i, i < m → f i = g i) : ∀ l, okBL m l = true → mapBL f l = mapBL g l
  | [], _ => rfl
  | v :: l, hv => by
    have hv : (okB m v && okBL m l) = true := hv
    rw [Bool.and_eq_true] at hv
    simp only [mapBL]; rw [mapB_congr h v hv.1, mapBL_congr h l hv.2]
end
mutual
theorem okB_mono {m n : Nat} (h : m ≤ n) : ∀ v, okB m v = true → okB n v = true
  | .pointer (some a), hv => Nat.ble_eq_true_of_le (Nat.le_trans (Nat.le_of_ble_eq_true hv) h)
  | .pointer none, _ => rfl
  | .slice (some a) l c, hv => Nat.ble_eq_true_of_le (Nat.le_trans (Nat.le_of_ble_eq_true hv) h)
  | .slice none l c, hv => hv
  | .func fn ⟨x⟩ ⟨y⟩, hv => by
    have hv : (okBL m x && okBL m y) = true := hv
    rw [Bool.and_eq_true] at hv
    show (okBL n x && okBL n y) = true
    rw [okBL_mono h x hv.1, okBL_mono h y hv.2]; rfl
  | .iface t v, hv => okB_mono h v hv
  | .agg ⟨c⟩, hv => okBL_mono h c hv
  | .tuple ⟨c⟩, hv => okBL_mono h c hv
  | .map (some i), hv => by cases hv
  | .chan (some i), hv => by cases hv
  | .map none, _ | .chan none, _ => rfl
  | .complex _ _ _, _ | .float _ _, _ => rfl
  | .bool _, _ | .int _ _, _ | .string _, _ | .nilFunc, _ | .nilIface, _ => rfl
theorem okBL_mono {m n : Nat} (h : m ≤ n) : ∀ l, okBL m l = true → okBL n l = true
  | [], _ => rfl
  | v :: l, hv => by
    have hv : (okB m v && okBL m l) = true := hv
    rw [Bool.and_eq_true] at hv
    show (okB n v && okBL n l) = true
    rw [okB_mono h v hv.1, okBL_mono h l hv.2]; rfl
end
/-- Object a is what is written as o, its places by h. -/
structure ObjIs (a : AO) (o : NO) (h : Nat → Nat) : Prop where
  live : a.live = true
  elem : a.elem = o.elem
  sz : a.sz = o.sz
  raw : a.raw = o.raw
  opn : a.opn = o.opn
  len : a.len = o.vs.length
  cells : ∀ k, k < o.vs.length → Tr.get undef a.cells k = mapB h (o.vs.getD k undef)
noncomputable def chkOneG (s : St) (src : Nat → Nat) (m : Nat) (o : NO) : Bool :=
  (s.obj o.src).live && (Nat.beq (s.obj o.src).elem o.elem && (Nat.beq (s.obj o.src).sz o.sz && ((s.obj o.src).raw == o.raw && ((s.obj o.src).opn == o.opn && (Nat.beq (s.obj o.src).len o.vs.length &&
    (okBL m o.vs && veqL (mapBL src o.vs) ((List.range o.vs.length).map (Tr.get undef (s.obj o.src).cells))))))))
theorem chkOneG_spec {s : St} {src : Nat → Nat} {m : Nat} {o : NO} (h : chkOneG s src m o = true) : ObjIs (s.obj o.src) o src ∧ okBL m o.vs = true := by
  unfold chkOneG at h
  simp only [Bool.and_eq_true, beq_iff_eq] at h
  obtain ⟨h1, h2, h3, h4, h5, h6, h7, h8⟩ := h
  have h8 := veqL_spec _ _ h8
  refine ⟨⟨h1, Nat.eq_of_beq_eq_true h2, Nat.eq_of_beq_eq_true h3, h4, h5, Nat.eq_of_beq_eq_true h6, fun k hk => ?_⟩, h7⟩
  have e1 : (mapBL src o.vs)[k]? = some (mapB src (o.vs.getD k undef)) := by
    rw [mapBL_eq, List.getElem?_map, List.getD, List.getElem?_eq_getElem hk]; rfl
  rw [h8, List.getElem?_map, List.getElem?_range hk] at e1
  injection e1
theorem chkOne_G {s : St} {src : Nat → Nat} {j : Nat} {o : NO} : chkOne s src j o = chkOneG s src j o := rfl
noncomputable def chkAllG (s : St) (src inv : Nat → Nat) (m : Nat) : Nat → List NO → Bool
  | _, [] => true
  | j, o :: l => chkOneG s src m o && (Nat.beq (src j) o.src && (Nat.beq (inv o.src) j && chkAllG s src inv m (j + 1) l))
theorem chkAllG_spec {s : St} {src inv : Nat → Nat} {m : Nat} : ∀ (l : List NO) (j : Nat), chkAllG s src inv m j l = true → ∀ k (h : k < l.length), ObjIs (s.obj (src (j + k))) l[k] src ∧ okBL m l[k].vs = true ∧ inv (src (j + k)) = j + k
  | [], _, _, k, h => (Nat.not_lt_zero _ h).elim
  | o :: l, j, hc, k, h => by
    simp only [chkAllG, Bool.and_eq_true] at hc
    obtain ⟨h1, h2, h3, h4⟩ := hc
    have h2 := Nat.eq_of_beq_eq_true h2
    have h3 := Nat.eq_of_beq_eq_true h3
    cases k with
    | zero =>
      obtain ⟨q1, q2⟩ := chkOneG_spec h1
      rw [Nat.add_zero, h2]
      exact ⟨q1, q2, h3⟩
    | succ k =>
      have := chkAllG_spec l (j + 1) h4 k (by simpa using h)
      rw [show j + (k + 1) = j + 1 + k from by omega]
      exact this
theorem chkAll_spec {s : St} {src inv : Nat → Nat} : ∀ (l : List NO) (j : Nat), chkAll s src inv j l = true → ∀ k (h : k < l.length), ObjIs (s.obj (src (j + k))) l[k] src ∧ okBL (j + k) l[k].vs = true ∧ inv (src (j + k)) = j + k
  | [], _, _, k, h => (Nat.not_lt_zero _ h).elim
  | o :: l, j, hc, k, h => by
    simp only [chkAll, Bool.and_eq_true] at hc
    obtain ⟨h1, h2, h3, h4⟩ := hc
    have h2 := Nat.eq_of_beq_eq_true h2
    have h3 := Nat.eq_of_beq_eq_true h3
    cases k with
    | zero =>
      obtain ⟨q1, q2⟩ := chkOneG_spec (chkOne_G ▸ h1)
      rw [Nat.add_zero, h2]
      exact ⟨q1, q2, h3⟩
    | succ k =>
      have := chkAll_spec l (j + 1) h4 k (by simpa using h)
      rw [show j + (k + 1) = j + 1 + k from by omega]
      exact this
/-- The same objects, their numbers by f. -/
noncomputable def reSrc (f : Nat → Nat) : Nat → List NO → List NO
  | _, [] => []
  | j, o :: l => { o with src := f j } :: reSrc f (j + 1) l
theorem reSrc_length (f : Nat → Nat) : ∀ (l : List NO) (j : Nat), (reSrc f j l).length = l.length
  | [], _ => rfl
  | o :: l, j => by simp [reSrc, reSrc_length f l]
theorem reSrc_get (f : Nat → Nat) : ∀ (l : List NO) (j k : Nat) (h : k < l.length) (h' : k < (reSrc f j l).length), (reSrc f j l)[k] = { l[k] with src := f (j + k) }
  | [], _, k, h, _ => (Nat.not_lt_zero _ h).elim
  | o :: l, j, 0, _, _ => rfl
  | o :: l, j, k + 1, h, h' => by
    have := reSrc_get f l (j + 1) k (by simpa using h) (by rw [reSrc_length]; simpa using h)
    simp only [reSrc, List.getElem_cons_succ]
    rw [this, show j + (k + 1) = j + 1 + k from by omega]
theorem reSrc_lay (f : Nat → Nat) (b : Nat) : ∀ (l : List NO) (j : Nat) (s : St), (reSrc f j l).foldl (layOne b) s = l.foldl (layOne b) s
  | [], _, _ => rfl
  | o :: l, j, s => by
    show (reSrc f (j + 1) l).foldl (layOne b) (layOne b s { o with src := f j }) = l.foldl (layOne b) (layOne b s o)
    exact reSrc_lay f b l (j + 1) _
theorem ObjIs.src {a : AO} {o : NO} {h : Nat → Nat} {x : Nat} (q : ObjIs a { o with src := x } h) : ObjIs a o h := ⟨q.live, q.elem, q.sz, q.raw, q.opn, q.len, q.cells⟩
theorem ObjIs.congr {a : AO} {o : NO} {f g : Nat → Nat} {m : Nat} (q : ObjIs a o f) (hok : okBL m o.vs = true) (h : ∀ i, i < m → f i = g i) : ObjIs a o g :=
  ⟨q.live, q.elem, q.sz, q.raw, q.opn, q.len, fun k hk => by
    rw [q.cells k hk]
    exact mapB_congr h _ ((okBL_iff m o.vs).1 hok _ (by rw [List.getD, List.getElem?_eq_getElem hk]; exact List.getElem_mem _))⟩
section
variable {P : Program} {B : Nat → Prop} {γ δ : Gh} {s s' : St} {w w' : World}
def tgtN (n0 n : Nat) (f : Nat → Nat) (b : Nat) : Nat := cond (Nat.blt b n0) (f b) (n + (b - n0))
theorem tgtN_lt {n0 n : Nat} {f : Nat → Nat} {b : Nat} (h : b < n0) : tgtN n0 n f b = f b := by
  unfold tgtN; rw [show Nat.blt b n0 = true from by simpa [Nat.blt_eq] using h]; rfl
theorem tgtN_ge {n0 n : Nat} {f : Nat → Nat} {b : Nat} (h : n0 ≤ b) : tgtN n0 n f b = n + (b - n0) := by
  unfold tgtN
  cases hb : Nat.blt b n0 with
  | true => exact absurd (Nat.le_of_ble_eq_true hb) (Nat.not_lt.2 h)
  | false => rfl
/-- What a call must leave alone: what was to be left alone, and all objects that it is not told of. -/
def rest (B : Nat → Prop) (γ : Gh) (s : St) (n0 : Nat) (f : Nat → Nat) (k : Nat) : Prop :=
  B k ∨ (∃ i, (s.obj i).live = true ∧ (∀ j, j < n0 → f j ≠ i) ∧ γ.blk i = k) ∨ (∃ i, (s.mob i).live = true ∧ γ.blk i = k)
def glueG (γ δ : Gh) (n n0 : Nat) (src : Nat → Nat) : Gh :=
  ⟨fun i => if i < n then γ.blk i else δ.blk (src (n0 + (i - n))), fun i => if i < n then γ.off i else δ.off (src (n0 + (i - n))), fun i => if i < n then γ.ext i else δ.ext (src (n0 + (i - n)))⟩
theorem R.glue (hR : R B γ s w) {n0 m : Nat} {f src : Nat → Nat} (hR' : R (rest B γ s n0 f) δ s' w') (hF : Fr (rest B γ s n0 f) w w')
    (hf : ∀ j, j < n0 → (s.obj (f j)).live = true)
    (hδ : ∀ j, j < n0 → δ.blk j = γ.blk (f j) ∧ δ.off j = γ.off (f j) ∧ δ.ext j = γ.ext (f j))
    (hsrc : ∀ j, j < n0 → src j = j) (hsi : ∀ i j, i < n0 + m → j < n0 + m → src i = src j → i = j)
    {post : Nat → NO} (hpost : ∀ j, j < n0 + m → ObjIs (s'.obj (src j)) (post j) src ∧ okBL (n0 + m) (post j).vs = true)
    {s'' : St} (hn : s''.n = s.n + m) (hmp : s''.mp = s.mp)
    (hold : ∀ i, i < s.n → (∀ j, j < n0 → f j ≠ i) → s''.obj i = s.obj i)
    (hhit : ∀ j, j < n0 + m → ObjIs (s''.obj (tgtN n0 s.n f j)) (post j) (tgtN n0 s.n f))
    (hdead : ∀ i, s.n + m ≤ i → (s''.obj i).live = false) :
    R B (glueG γ δ s.n n0 src) s'' w' ∧ Ext s.n γ (glueG γ δ s.n n0 src) ∧ Alike (n0 + m) (tgtN n0 s.n f) src (glueG γ δ s.n n0 src) δ := by
  have hx : Ext s.n γ (glueG γ δ s.n n0 src) := ⟨fun i hi => if_pos hi, fun i hi => if_pos hi, fun i hi => if_pos hi⟩
  have hfl : ∀ j, j < n0 → f j < s.n := fun j hj => hR.lt _ (hf j hj)
  have hlike : Alike (n0 + m) (tgtN n0 s.n f) src (glueG γ δ s.n n0 src) δ := by
    intro j hj
    rcases Nat.lt_or_ge j n0 with h | h
    · rw [tgtN_lt h, hsrc j h, hx.blk _ (hfl j h), hx.off _ (hfl j h), hx.ext _ (hfl j h)]
      exact ⟨(hδ j h).1.symm, (hδ j h).2.1.symm, (hδ j h).2.2.symm⟩
    · rw [tgtN_ge h]
      have e : n0 + (s.n + (j - n0) - s.n) = j := by omega
      have hng : ¬ s.n + (j - n0) < s.n := by omega
      simp only [glueG, if_neg hng, e]
      exact ⟨trivial, trivial, trivial⟩
  have htl : ∀ j, j < n0 + m → tgtN n0 s.n f j < s.n + m := by
    intro j hj
    rcases Nat.lt_or_ge j n0 with h | h
    · rw [tgtN_lt h]; have := hfl j h; omega
    · rw [tgtN_ge h]; omega
  have hcase : ∀ i, (s''.obj i).live = true → (i < s.n ∧ (∀ j, j < n0 → f j ≠ i) ∧ (s.obj i).live = true ∧ s''.obj i = s.obj i) ∨ ∃ j, j < n0 + m ∧ i = tgtN n0 s.n f j := by
    intro i hi
    rcases Nat.lt_or_ge i (s.n + m) with h | h
    · rcases Nat.lt_or_ge i s.n with h1 | h1
      · by_cases hq : ∃ j, j < n0 ∧ f j = i
        · obtain ⟨j, hj, rfl⟩ := hq
          exact Or.inr ⟨j, by omega, (tgtN_lt hj).symm⟩
        · have hq' : ∀ j, j < n0 → f j ≠ i := fun j hj e => hq ⟨j, hj, e⟩
          have ho := hold i h1 hq'
          rw [ho] at hi
          exact Or.inl ⟨h1, hq', hi, ho⟩
      · exact Or.inr ⟨n0 + (i - s.n), by omega, by rw [tgtN_ge (by omega)]; omega⟩
    · rw [hdead i h] at hi; cases hi
  have hmem : ∀ (o : NO) k, k < o.vs.length → o.vs.getD k undef ∈ o.vs := by
    intro o k hk; rw [List.getD, List.getElem?_eq_getElem hk]; exact List.getElem_mem _
  have hlowO : ∀ i, (s.obj i).live = true → (∀ j, j < n0 → f j ≠ i) → rest B γ s n0 f (γ.blk i) := fun i h1 h2 => Or.inr (Or.inl ⟨i, h1, h2, rfl⟩)
  have hlv : ∀ j, j < n0 + m → (s'.obj (src j)).live = true := fun j hj => (hpost j hj).1.live
  refine ⟨⟨fun i hi => ?_, fun i hi => ?_, fun i hi k hk => ?_, fun i hi ho => ?_, fun i j hi hj hij => ?_, fun i hi => ?_, fun k hk => Nat.lt_of_lt_of_le (hR.bnd k hk) hF.size, ?_⟩, hx, hlike⟩
  · rw [hn]
    rcases hcase i hi with ⟨h1, _⟩ | ⟨j, hj, rfl⟩
    · omega
    · exact htl j hj
  · rcases hcase i hi with ⟨h1, h2, h3, h4⟩ | ⟨j, hj, rfl⟩
    · rw [h4, hx.blk i h1, hx.off i h1, hx.ext i h1, hF.block _ (hlowO i h3 h2)]
      obtain ⟨c, fz, q1, q2, q3, q4⟩ := hR.obj i h3
      exact ⟨c, fz, q1, q2, q3, fun k hk => by rw [q4 k hk, ren_ext hx _ (hR.wf i h3 k hk)]⟩
    · have hh := hhit j hj
      obtain ⟨hp, hok⟩ := hpost j hj
      obtain ⟨l1, l2, l3⟩ := hlike j hj
      obtain ⟨c, fz, q1, q2, q3, q4⟩ := hR'.obj _ (hlv j hj)
      refine ⟨c, fz, ?_, ?_, ?_, fun k hk => ?_⟩
      · rw [l1, hh.elem, ← hp.elem]; exact q1
      · rw [hh.raw, ← hp.raw]; exact q2
      · rw [l2, l3, hh.len, hh.sz, ← hp.len, ← hp.sz]; exact q3
      · rw [hh.len] at hk
        rw [l2, q4 k (by rw [hp.len]; exact hk), hp.cells k hk, hh.cells k hk]
        exact congrArg some (ren_mapB hlike _ ((okBL_iff _ _).1 hok _ (hmem _ k hk))).symm
  · rw [hn]
    rcases hcase i hi with ⟨h1, h2, h3, h4⟩ | ⟨j, hj, rfl⟩
    · rw [h4] at hk ⊢
      exact Wf.mono (Nat.le_add_right _ _) _ (hR.wf i h3 k hk)
    · have hh := hhit j hj
      rw [hh.len] at hk
      rw [hh.cells k hk]
      exact wf_mapB htl _ ((okBL_iff _ _).1 (hpost j hj).2 _ (hmem _ k hk))
  · rcases hcase i hi with ⟨h1, h2, h3, h4⟩ | ⟨j, hj, rfl⟩
    · rw [h4] at ho; rw [hx.ext i h1, hx.off i h1]; exact hR.cl i h3 ho
    · rw [(hlike j hj).2.2, (hlike j hj).2.1]
      exact hR'.cl _ (hlv j hj) (by rw [(hpost j hj).1.opn, ← (hhit j hj).opn]; exact ho)
  · rcases hcase i hi with ⟨h1, h2, h3, h4⟩ | ⟨a, ha, rfl⟩
    · rcases hcase j hj with ⟨k1, k2, k3, k4⟩ | ⟨b, hb, rfl⟩
      · rw [hx.blk i h1, hx.blk j k1] at hij
        exact hR.inj i j h3 k3 hij
      · rw [hx.blk i h1, (hlike b hb).1] at hij
        exact (hR'.low _ (hlv b hb) (hij ▸ hlowO i h3 h2)).elim
    · rcases hcase j hj with ⟨k1, k2, k3, k4⟩ | ⟨b, hb, rfl⟩
      · rw [hx.blk j k1, (hlike a ha).1] at hij
        exact (hR'.low _ (hlv a ha) (hij.symm ▸ hlowO j k3 k2)).elim
      · rw [(hlike a ha).1, (hlike b hb).1] at hij
        have := hsi a b ha hb (hR'.inj _ _ (hlv a ha) (hlv b hb) hij)
        rw [this]
  · rcases hcase i hi with ⟨h1, h2, h3, h4⟩ | ⟨j, hj, rfl⟩
    · rw [hx.blk i h1]; exact hR.low i h3
    · rw [(hlike j hj).1]
      exact fun hB => hR'.low _ (hlv j hj) (Or.inl hB)
  · exact hR.m.keep (fun i hi => hF.block _ (Or.inr (Or.inr ⟨i, hi, rfl⟩))) hmp (by rw [hn]; exact Nat.le_add_right _ _) hx
/-- What is told of a state alone, with more to be left alone. -/
theorem R.more_rest {B' : Nat → Prop} (hR : R B γ s w) (hm : ∀ i, (s.mob i).live = true → False) (hl : ∀ i, (s.obj i).live = true → ¬ B' (γ.blk i)) (hb : ∀ k, B' k → k < w.heap.size) : R B' γ s w :=
  ⟨hR.lt, hR.obj, hR.wf, hR.cl, hR.inj, hl, hb, ⟨fun i h => (hm i h).elim, fun i h => (hm i h).elim, fun i h => (hm i h).elim, fun i _ h => (hm i h).elim, fun i h => (hm i h).elim⟩⟩
theorem layAll_mp (b : Nat) : ∀ (l : List NO) (s : St), (l.foldl (layOne b) s).mp = s.mp
  | [], _ => rfl
  | o :: l, s => (layAll_mp b l (layOne b s o)).trans rfl
end
structure SMemo where
  g : Nat
  args : List Value
  l0 : List NO
  pa : List (Nat × Nat × Nat)
  pl : List (Nat × Nat × Nat × Nat)
  v : Value
  chg : List (Nat × NO)
  nw : List NO
noncomputable def lookG : List (Nat × NO) → Nat → Option NO
  | [], _ => none
  | p :: l, j => cond (Nat.beq p.1 j) (some p.2) (lookG l j)
noncomputable def turn (j : Nat) (o : NO) (r : Option NO) : NO := Option.rec (motive := fun _ => NO) { o with src := j } (fun q => { q with src := j }) r
noncomputable def oldL (chg : List (Nat × NO)) : Nat → List NO → List NO
  | _, [] => []
  | j, o :: l => turn j o (lookG chg j) :: oldL chg (j + 1) l
theorem oldL_length (chg : List (Nat × NO)) : ∀ (l : List NO) (j : Nat), (oldL chg j l).length = l.length
  | [], _ => rfl
  | o :: l, j => by simp [oldL, oldL_length chg l]
theorem oldL_get (chg : List (Nat × NO)) : ∀ (l : List NO) (j k : Nat) (h : k < l.length) (h' : k < (oldL chg j l).length), (oldL chg j l)[k] = turn (j + k) l[k] (lookG chg (j + k))
  | [], _, k, h, _ => (Nat.not_lt_zero _ h).elim
  | o :: l, j, 0, _, _ => rfl
  | o :: l, j, k + 1, h, h' => by
    have := oldL_get chg l (j + 1) k (by simpa using h) (by rw [oldL_length]; simpa using h)
    simp only [oldL, List.getElem_cons_succ]
    rw [this, show j + (k + 1) = j + 1 + k from by omega]
noncomputable def mkO (h : Nat → Nat) (o : NO) : AO := ⟨o.elem, o.sz, true, o.opn, o.vs.length, put (mapBL h o.vs) 0 .leaf, o.raw⟩
theorem mkO_is (h : Nat → Nat) (o : NO) : ObjIs (mkO h o) o h := by
  refine ⟨rfl, rfl, rfl, rfl, rfl, rfl, fun k hk => ?_⟩
  show Tr.get undef (put (mapBL h o.vs) 0 .leaf) k = _
  have hl : (mapBL h o.vs).length = o.vs.length := by rw [mapBL_eq, List.length_map]
  rw [put_get, if_pos (by omega), Nat.sub_zero, mapBL_eq, List.getD, List.getElem?_map, List.getElem?_eq_getElem hk, List.getD, List.getElem?_eq_getElem hk]; rfl
noncomputable def newAll (h : Nat → Nat) : List NO → St → St
  | [], s => s
  | o :: l, s => newAll h l (s.mkR o.raw o.elem o.sz o.opn (mapBL h o.vs))
theorem newAll_n (h : Nat → Nat) : ∀ (l : List NO) (s : St), (newAll h l s).n = s.n + l.length ∧ (newAll h l s).mp = s.mp
  | [], s => ⟨rfl, rfl⟩
  | o :: l, s => by
    obtain ⟨h1, h2⟩ := newAll_n h l (s.mkR o.raw o.elem o.sz o.opn (mapBL h o.vs))
    refine ⟨?_, h2⟩
    show (newAll h l _).n = _
    rw [h1]
    show s.n + 1 + l.length = _
    simp only [List.length_cons]; omega
theorem newAll_obj (h : Nat → Nat) : ∀ (l : List NO) (s : St) (i : Nat), (newAll h l s).obj i = if hi : s.n ≤ i ∧ i < s.n + l.length then mkO h (l[i - s.n]'(by omega)) else s.obj i
  | [], s, i => by rw [dif_neg (by simp only [List.length_nil]; omega)]; rfl
  | o :: l, s, i => by
    show (newAll h l (s.mkR o.raw o.elem o.sz o.opn (mapBL h o.vs))).obj i = _
    rw [newAll_obj h l]
    have hn : (s.mkR o.raw o.elem o.sz o.opn (mapBL h o.vs)).n = s.n + 1 := rfl
    have hl : (mapBL h o.vs).length = o.vs.length := by rw [mapBL_eq, List.length_map]
    simp only [hn]
    by_cases h1 : s.n + 1 ≤ i ∧ i < s.n + 1 + l.length
    · rw [dif_pos h1, dif_pos (by simp; omega)]
      congr 1
      have : i - s.n = i - (s.n + 1) + 1 := by omega
      simp only [this, List.getElem_cons_succ]
    · rw [dif_neg h1, mkR_obj]
      by_cases h2 : i = s.n
      · subst h2
        rw [if_pos rfl, dif_pos (by simp)]
        simp only [Nat.sub_self, List.getElem_cons_zero, mkO, hl]
      · rw [if_neg h2, dif_neg (by simp; omega)]
noncomputable def setAll (f h : Nat → Nat) : List (Nat × NO) → St → St
  | [], s => s
  | p :: l, s => (setAll f h l s).setO (f p.1) (mkO h p.2)
theorem setAll_n (f h : Nat → Nat) : ∀ (l : List (Nat × NO)) (s : St), (setAll f h l s).n = s.n ∧ (setAll f h l s).mp = s.mp
  | [], s => ⟨rfl, rfl⟩
  | p :: l, s => setAll_n f h l s
theorem setAll_miss (f h : Nat → Nat) : ∀ (l : List (Nat × NO)) (s : St) (i : Nat), (∀ p ∈ l, f p.1 ≠ i) → (setAll f h l s).obj i = s.obj i
  | [], s, i, _ => rfl
  | p :: l, s, i, hm => by
    show ((setAll f h l s).setO (f p.1) (mkO h p.2)).obj i = _
    rw [setO_obj, if_neg (fun e => hm p (by simp) e.symm), setAll_miss f h l s i (fun q hq => hm q (by simp [hq]))]
theorem setAll_hit (f h : Nat → Nat) {n0 : Nat} (hi : ∀ i j, i < n0 → j < n0 → f i = f j → i = j) : ∀ (l : List (Nat × NO)) (s : St) (j : Nat), (∀ p ∈ l, p.1 < n0) → j < n0 →
    (setAll f h l s).obj (f j) = (match lookG l j with | some o => mkO h o | none => s.obj (f j))
  | [], s, j, _, _ => rfl
  | p :: l, s, j, hl, hj => by
    show ((setAll f h l s).setO (f p.1) (mkO h p.2)).obj (f j) = _
    rw [setO_obj]
    unfold lookG
    by_cases e : p.1 = j
    · rw [if_pos (by rw [e]), e, Nat.beq_refl]; rfl
    · have hb : Nat.beq p.1 j = false := by
        cases hb : Nat.beq p.1 j with
        | true => exact (e (Nat.eq_of_beq_eq_true hb)).elim
        | false => rfl
      rw [if_neg (fun q => e (hi _ _ hj (hl p (by simp)) q).symm), hb]
      exact setAll_hit f h hi l s j (fun q hq => hl q (by simp [hq])) hj
noncomputable def allLt (n : Nat) : List (Nat × NO) → Bool
  | [] => true
  | p :: l => Nat.blt p.1 n && allLt n l
theorem allLt_spec (n : Nat) : ∀ l, allLt n l = true → ∀ p ∈ l, p.1 < n
  | [], _, p, hp => by cases hp
  | q :: l, h, p, hp => by
    simp only [allLt, Bool.and_eq_true] at h
    rcases List.mem_cons.1 hp with rfl | hp
    · exact Nat.le_of_ble_eq_true h.1
    · exact allLt_spec n l h.2 p hp
noncomputable def endS (M : SMemo) (f : Nat → Nat) (s : St) : St :=
  setAll f (tgtN M.l0.length s.n f) M.chg (newAll (tgtN M.l0.length s.n f) M.nw s)
noncomputable def chkEnd (M : SMemo) (src inv : Nat → Nat) : Res → Bool
  | .val v s => chkAllG s src inv (M.l0.length + M.nw.length) 0 (oldL M.chg 0 M.l0 ++ M.nw) && (allLt M.l0.length M.chg && (okBL M.l0.length M.args && (okB (M.l0.length + M.nw.length) M.v && veq (mapB src M.v) v)))
  | _ => false
section
variable {P : Program} {B : Nat → Prop} {γ δ : Gh} {s s' : St} {w w' : World}
theorem smemo_ok {orc : Orc} (hs : SymOk P) (ho : OrcOk P orc) (hm : P.follows .mixedOrders = true) {n : Nat} {M : SMemo} {src inv : Nat → Nat}
    (h : chkEnd M src inv (runF P orc n (.fn M.g (mapBL (fun i => 0 + i) M.args) (layAll st0 M.l0))) = true)
    {f finv : Nat → Nat} (hc : chkAll s f finv 0 (reSrc f 0 M.l0) = true) (hR : R B γ s w) :
    Calls P M.g ((mapBL f M.args).map (ren γ)).toArray w (RetOk B γ s w (mapB (tgtN M.l0.length s.n f) M.v) (endS M f s)) := by
  rw [runF_eq] at h
  unfold chkEnd at h
  split at h
  case h_2 => cases h
  rename_i v s' hres
  simp only [Bool.and_eq_true] at h
  obtain ⟨hall, hlt, hoka, hokv, hv⟩ := h
  have hv := veq_spec _ _ hv
  have hlt := allLt_spec _ _ hlt
  -- the objects that are found
  have hpre := chkAll_spec _ _ hc
  have hfound : ∀ j (hj : j < M.l0.length), ObjIs (s.obj (f j)) M.l0[j] f ∧ okBL j M.l0[j].vs = true ∧ finv (f j) = j := by
    intro j hj
    obtain ⟨q1, q2, q3⟩ := hpre j (by rw [reSrc_length]; exact hj)
    rw [reSrc_get f _ _ _ hj] at q1 q2
    rw [Nat.zero_add] at q1 q2 q3
    exact ⟨q1.src, q2, q3⟩
  have hlive : ∀ j, j < M.l0.length → (s.obj (f j)).live = true := fun j hj => (hfound j hj).1.live
  have hinj : ∀ i j, i < M.l0.length → j < M.l0.length → f i = f j → i = j := by
    intro i j hi hj e
    have h1 := (hfound i hi).2.2
    have h2 := (hfound j hj).2.2
    rw [← h1, ← h2, e]
  obtain ⟨γ1, hR1, hn1, hlike1⟩ := hR.relay hc
  rw [reSrc_length] at hn1 hlike1
  have hlay : layAll st0 (reSrc f 0 M.l0) = layAll st0 M.l0 := reSrc_lay f _ _ _ _
  rw [hlay] at hR1 hn1
  have hmob : ∀ i, ((layAll st0 M.l0).mob i).live = true → False := by
    intro i hi
    have : (layAll st0 M.l0).mp = .leaf := layAll_mp _ _ _
    unfold St.mob at hi
    rw [this] at hi
    exact Bool.noConfusion (show false = true from hi)
  have hlow : ∀ i, ((layAll st0 M.l0).obj i).live = true → ¬ rest B γ s M.l0.length f (γ1.blk i) := by
    intro i hi
    have hil : i < M.l0.length := by have := hR1.lt i hi; rw [hn1] at this; exact this
    have hb : γ1.blk i = γ.blk (f i) := by have := (hlike1 i hil).1; simpa using this
    rw [hb]
    rintro (hB | ⟨k, k1, k2, k3⟩ | ⟨k, k1, k2⟩)
    · exact hR.low _ (hlive i hil) hB
    · exact k2 i hil (hR.inj _ _ (hlive i hil) k1 k3.symm)
    · obtain ⟨c, fz, q1, _⟩ := hR.obj _ (hlive i hil)
      have q2 := hR.m.obj _ k1
      rw [k2, q1] at q2
      cases q2
  have hbnd : ∀ k, rest B γ s M.l0.length f k → k < w.heap.size := by
    rintro k (hB | ⟨i, k1, _, rfl⟩ | ⟨i, k1, rfl⟩)
    · exact hR.bnd k hB
    · exact hR.blk_lt k1
    · exact hR.mblk_lt k1
  have hR2 := hR1.more_rest (B' := rest B γ s M.l0.length f) hmob hlow hbnd
  have hwa : ∀ v ∈ mapBL (fun i => 0 + i) M.args, Wf (layAll st0 M.l0).n v := by
    intro v hv
    rw [mapBL_eq] at hv
    obtain ⟨x, hx, rfl⟩ := List.mem_map.1 hv
    exact wf_mapB (fun i hi => by rw [hn1]; omega) x ((okBL_iff _ _).1 hoka x hx)
  have hargs : ((mapBL f M.args).map (ren γ)) = (mapBL (fun i => 0 + i) M.args).map (ren γ1) := by
    rw [mapBL_eq, mapBL_eq, List.map_map, List.map_map]
    refine List.map_congr_left fun x hx => ?_
    exact (ren_mapB hlike1 x ((okBL_iff _ _).1 hoka x hx)).symm
  rw [hargs]
  have hcall := (sound hs ho hm n).1.2 M.g _ _ v s' hres _ γ1 w hR2 hwa
  refine hcall.mono ?_
  rintro e w' ⟨δ, rfl, hx, hR', _, hF, _⟩
  -- what is there behind
  have hend := chkAllG_spec _ _ hall
  have hln : (oldL M.chg 0 M.l0 ++ M.nw).length = M.l0.length + M.nw.length := by rw [List.length_append, oldL_length]
  have hsrc : ∀ j, j < M.l0.length → src j = j := by
    intro j hj
    -- the number that stands in the list is the number itself
    have key : ∀ (l : List NO) (k : Nat), chkAllG s' src inv (M.l0.length + M.nw.length) k l = true → ∀ i (hi : i < l.length), src (k + i) = l[i].src := by
      intro l
      induction l with
      | nil => intro k _ i hi; exact (Nat.not_lt_zero _ hi).elim
      | cons o l ih =>
        intro k hk i hi
        simp only [chkAllG, Bool.and_eq_true] at hk
        cases i with
        | zero => exact Nat.eq_of_beq_eq_true hk.2.1
        | succ i =>
          have := ih (k + 1) hk.2.2.2 i (by simpa using hi)
          rw [show k + (i + 1) = k + 1 + i from by omega]
          exact this
    have := key _ 0 hall j (by rw [hln]; omega)
    rw [Nat.zero_add] at this
    rw [this, List.getElem_append_left (by rw [oldL_length]; exact hj), oldL_get _ _ _ _ hj, Nat.zero_add]
    unfold turn
    cases lookG M.chg j <;> rfl
  have hsi : ∀ i j, i < M.l0.length + M.nw.length → j < M.l0.length + M.nw.length → src i = src j → i = j := by
    intro i j hi hj e
    have h1 := (hend i (by rw [hln]; exact hi)).2.2
    have h2 := (hend j (by rw [hln]; exact hj)).2.2
    rw [Nat.zero_add] at h1 h2
    rw [← h1, ← h2, e]
  have hδ : ∀ j, j < M.l0.length → δ.blk j = γ.blk (f j) ∧ δ.off j = γ.off (f j) ∧ δ.ext j = γ.ext (f j) := by
    intro j hj
    have h1 : j < (layAll st0 M.l0).n := by rw [hn1]; exact hj
    have h2 := hlike1 j hj
    simp only [Nat.zero_add] at h2
    exact ⟨(hx.blk j h1).trans h2.1, (hx.off j h1).trans h2.2.1, (hx.ext j h1).trans h2.2.2⟩
  obtain ⟨h1n, h1m⟩ := newAll_n (tgtN M.l0.length s.n f) M.nw s
  obtain ⟨h2n, h2m⟩ := setAll_n f (tgtN M.l0.length s.n f) M.chg (newAll (tgtN M.l0.length s.n f) M.nw s)
  have hfl : ∀ j, j < M.l0.length → f j < s.n := fun j hj => hR.lt _ (hlive j hj)
  let post : Nat → NO := fun j => (oldL M.chg 0 M.l0 ++ M.nw).getD j ⟨0, 0, 0, false, false, []⟩
  have hpg : ∀ j (hj : j < (oldL M.chg 0 M.l0 ++ M.nw).length), post j = (oldL M.chg 0 M.l0 ++ M.nw)[j] := by
    intro j hj
    show List.getD _ _ _ = _
    rw [List.getD, List.getElem?_eq_getElem hj]; rfl
  have hpost : ∀ j, j < M.l0.length + M.nw.length → ObjIs (s'.obj (src j)) (post j) src ∧ okBL (M.l0.length + M.nw.length) (post j).vs = true := by
    intro j hj
    have hj' : j < (oldL M.chg 0 M.l0 ++ M.nw).length := by rw [hln]; exact hj
    obtain ⟨q1, q2, _⟩ := hend j hj'
    rw [Nat.zero_add] at q1
    rw [hpg j hj']
    exact ⟨q1, q2⟩
  have hhit : ∀ j, j < M.l0.length + M.nw.length → ObjIs ((endS M f s).obj (tgtN M.l0.length s.n f j)) (post j) (tgtN M.l0.length s.n f) := by
    intro j hj
    have hj' : j < (oldL M.chg 0 M.l0 ++ M.nw).length := by rw [hln]; exact hj
    rw [hpg j hj']
    rcases Nat.lt_or_ge j M.l0.length with h | h
    · rw [tgtN_lt h, List.getElem_append_left (by rw [oldL_length]; exact h), oldL_get _ _ _ _ h, Nat.zero_add]
      show ObjIs ((setAll f _ M.chg _).obj (f j)) _ _
      rw [setAll_hit f _ hinj _ _ j hlt h]
      cases lookG M.chg j with
      | some o => exact (mkO_is _ { o with src := j })
      | none =>
        show ObjIs ((newAll _ M.nw s).obj (f j)) { M.l0[j] with src := j } _
        have hfj := hfl j h
        rw [newAll_obj, dif_neg (by omega)]
        obtain ⟨q1, q2, _⟩ := hfound j h
        have q3 := q1.congr q2 (g := tgtN M.l0.length s.n f) (fun i hi => (tgtN_lt (by omega)).symm)
        exact ⟨q3.live, q3.elem, q3.sz, q3.raw, q3.opn, q3.len, q3.cells⟩
    · rw [tgtN_ge h, List.getElem_append_right (by rw [oldL_length]; exact h)]
      have hmiss : ∀ p ∈ M.chg, f p.1 ≠ s.n + (j - M.l0.length) := by
        intro p hp e
        have := hfl p.1 (hlt p hp)
        omega
      show ObjIs ((setAll f _ M.chg _).obj _) _ _
      rw [setAll_miss _ _ _ _ _ hmiss, newAll_obj, dif_pos (by omega)]
      have e1 : s.n + (j - M.l0.length) - s.n = j - (oldL M.chg 0 M.l0).length := by rw [oldL_length]; omega
      simp only [e1]
      exact mkO_is _ _
  obtain ⟨g1, g2, g3⟩ := hR.glue (n0 := M.l0.length) (m := M.nw.length) (f := f) (src := src) hR' hF hlive hδ hsrc hsi (post := post) hpost (s'' := endS M f s) (h2n.trans h1n) (h2m.trans h1m)
    (fun i hi hni => by
      show (setAll f _ M.chg _).obj i = _
      rw [setAll_miss _ _ _ _ _ (fun p hp => hni p.1 (hlt p hp)), newAll_obj, dif_neg (by omega)])
    hhit
    (fun i hi => by
      show ((setAll f _ M.chg _).obj i).live = false
      rw [setAll_miss _ _ _ _ _ (fun p hp e => by have := hfl p.1 (hlt p hp); omega), newAll_obj, dif_neg (by omega)]
      cases hq : (s.obj i).live with
      | false => rfl
      | true => have := hR.lt i hq; omega)
  refine ⟨_, ?_, g2, g1, ?_, hF.mono (fun k hk => Or.inl hk), ?_⟩
  · rw [← hv, ren_mapB g3 M.v hokv]
  · refine wf_mapB (fun i hi => ?_) M.v hokv
    show _ < (endS M f s).n
    rw [show (endS M f s).n = s.n + M.nw.length from h2n.trans h1n]
    rcases Nat.lt_or_ge i M.l0.length with h | h
    · rw [tgtN_lt h]; have := hfl i h; omega
    · rw [tgtN_ge h]; omega
  · show s.n ≤ (endS M f s).n
    rw [show (endS M f s).n = s.n + M.nw.length from h2n.trans h1n]
    exact Nat.le_add_right _ _
end
/-- The place in a value, by its path. -/
noncomputable def subV (p : Nat) : Value → Value
  | .iface _ (.func _ _ ⟨c⟩) => c.getD p undef
  | .iface _ (.agg ⟨c⟩) => c.getD p undef
  | .iface _ v => v
  | .func _ _ ⟨c⟩ => c.getD p undef
  | .agg ⟨c⟩ => c.getD p undef
  | v => v
noncomputable def plc : Value → Nat
  | .pointer (some a) => a.block
  | .slice (some a) _ _ => a.block
  | _ => 0
noncomputable def findA {β : Type} (args : List Value) : List (Nat × Nat × Nat) → Tr Nat → (Tr Nat → β) → β
  | [], t, k => k t
  | x :: l, t, k => Tr.setK 0 (plc (subV x.2.1 (args.getD x.1 undef))) (x.2.2 + 1) x.2.2 t fun t => findA args l t k
noncomputable def findL {β : Type} (s : St) : List (Nat × Nat × Nat × Nat) → Tr Nat → (Tr Nat → β) → β
  | [], t, k => k t
  | x :: l, t, k => Tr.setK 0 (plc (subV x.2.2.1 (Tr.get undef (s.obj (Tr.get 0 t x.1)).cells x.2.1))) (x.2.2.2 + 1) x.2.2.2 t fun t => findL s l t k
noncomputable def invK {β : Type} (f : Tr Nat) : Nat → Tr Nat → (Tr Nat → β) → β
  | 0, t, k => k t
  | j + 1, t, k => Tr.setK 0 j (Tr.get 0 f j + 1) (Tr.get 0 f j) t fun t => invK f j t k
theorem findA_eq {β : Type} (args : List Value) : ∀ (l : List (Nat × Nat × Nat)) (t : Tr Nat) (k : Tr Nat → β), ∃ t', findA args l t k = k t'
  | [], t, k => ⟨t, rfl⟩
  | x :: l, t, k => by
    unfold findA
    rw [Tr.setK_id]
    exact findA_eq args l _ k
theorem findL_eq {β : Type} (s : St) : ∀ (l : List (Nat × Nat × Nat × Nat)) (t : Tr Nat) (k : Tr Nat → β), ∃ t', findL s l t k = k t'
  | [], t, k => ⟨t, rfl⟩
  | x :: l, t, k => by
    unfold findL
    rw [Tr.setK_id]
    exact findL_eq s l _ k
theorem invK_eq {β : Type} (f : Tr Nat) : ∀ (n : Nat) (t : Tr Nat) (k : Tr Nat → β), ∃ t', invK f n t k = k t'
  | 0, t, k => ⟨t, rfl⟩
  | j + 1, t, k => by
    unfold invK
    rw [Tr.setK_id]
    exact invK_eq f j _ k
noncomputable def tryS3 (M : SMemo) (args : List Value) (s : St) (f inv : Tr Nat) : Option (Value × St) :=
  cond (veqL (mapBL (Tr.get 0 f) M.args) args && chkAll s (Tr.get 0 f) (Tr.get 0 inv) 0 (reSrc (Tr.get 0 f) 0 M.l0))
    (some (mapB (tgtN M.l0.length s.n (Tr.get 0 f)) M.v, endS M (Tr.get 0 f) s)) none
noncomputable def tryS (M : SMemo) (args : List Value) (s : St) : Option (Value × St) :=
  findA args M.pa .leaf fun t => findL s M.pl t fun f => invK f M.l0.length .leaf fun inv => tryS3 M args s f inv
noncomputable def orElseS (k : Option (Value × St)) (r : Option (Value × St)) : Option (Value × St) := Option.rec (motive := fun _ => Option (Value × St)) k (fun p => some p) r
noncomputable def orcS (o : Orc) : List SMemo → Orc
  | [], g, args, s => o g args s
  | M :: l, g, args, s => cond (Nat.beq M.g g) (orElseS (orcS o l g args s) (tryS M args s)) (orcS o l g args s)
def SOk (P : Program) (M : SMemo) : Prop := ∀ B γ s w (f finv : Nat → Nat), chkAll s f finv 0 (reSrc f 0 M.l0) = true → R B γ s w →
    Calls P M.g ((mapBL f M.args).map (ren γ)).toArray w (RetOk B γ s w (mapB (tgtN M.l0.length s.n f) M.v) (endS M f s))
theorem tryS_ok {P : Program} {M : SMemo} (hM : SOk P M) {args : List Value} {s : St} {v : Value} {s' : St} (h : tryS M args s = some (v, s')) :
    ∀ B γ w, R B γ s w → Calls P M.g (args.map (ren γ)).toArray w (RetOk B γ s w v s') := by
  unfold tryS at h
  obtain ⟨t1, e1⟩ := findA_eq args M.pa .leaf (fun t => findL s M.pl t fun f => invK f M.l0.length .leaf fun inv => tryS3 M args s f inv)
  rw [e1] at h
  obtain ⟨t2, e2⟩ := findL_eq s M.pl t1 (fun f => invK f M.l0.length .leaf fun inv => tryS3 M args s f inv)
  rw [e2] at h
  obtain ⟨t3, e3⟩ := invK_eq t2 M.l0.length .leaf (fun inv => tryS3 M args s t2 inv)
  rw [e3] at h
  unfold tryS3 at h
  intro B γ w hR
  cases hq : (veqL (mapBL (Tr.get 0 t2) M.args) args && chkAll s (Tr.get 0 t2) (Tr.get 0 t3) 0 (reSrc (Tr.get 0 t2) 0 M.l0)) with
  | false => rw [hq] at h; cases h
  | true =>
    rw [hq, cond_true] at h
    injection h with h
    injection h with h1 h2
    subst h1 h2
    rw [Bool.and_eq_true] at hq
    have ha := veqL_spec _ _ hq.1
    have := hM B γ s w _ _ hq.2 hR
    rw [ha] at this
    exact this
theorem orcS_ok {P : Program} {o : Orc} (ho : OrcOk P o) : ∀ (l : List SMemo), (∀ M ∈ l, SOk P M) → OrcOk P (orcS o l)
  | [], _ => ho
  | M :: l, hl => by
    intro g args s v s' h B γ w hR ha
    have ih := orcS_ok ho l (fun q hq => hl q (by simp [hq]))
    unfold orcS at h
    cases hb : Nat.beq M.g g with
    | false => rw [hb, cond_false] at h; exact ih g args s v s' h B γ w hR ha
    | true =>
      rw [hb, cond_true] at h
      have hg := Nat.eq_of_beq_eq_true hb
      cases hq : tryS M args s with
      | none => rw [hq] at h; exact ih g args s v s' h B γ w hR ha
      | some p =>
        rw [hq] at h
        injection h with h
        obtain ⟨v1, s1⟩ := p
        injection h with h1 h2
        subst h1 h2
        have := tryS_ok (hl M (by simp)) hq B γ w hR
        rw [hg] at this
        exact this
theorem smemo_sok {P : Program} {orc : Orc} (hs : SymOk P) (ho : OrcOk P orc) (hm : P.follows .mixedOrders = true) {n : Nat} {M : SMemo} {src inv : Nat → Nat}
    (h : chkEnd M src inv (runF P orc n (.fn M.g (mapBL (fun i => 0 + i) M.args) (layAll st0 M.l0))) = true) : SOk P M :=
  fun _ _ _ _ _ _ hc hR => smemo_ok hs ho hm h hc hR
end Go.Ev
