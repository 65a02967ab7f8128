/-
  A verified evaluator of the model's code, part T (own work): no condition; the theorem 'sound' of its last part is what a claim uses.
-/
import Derived.Test.YtedjimkpmmacoaaGreatDoorEvI
namespace Go.Ev
set_option linter.all false
set_option linter.unusedVariables false
set_option linter.unusedSimpArgs false
set_option linter.unusedSectionVars false
set_option linter.unnecessarySimpa false
open Go Go.RowKit
variable [Tok] [Sym]
/-! tables: what is known of tokens, and of calls -/
section
variable {P : Program} {B : Nat → Prop} {γ : Gh} {s : St} {w : World}

structure BRow where
  op : BinOp
  x : Value
  y : Value
  v : Value
noncomputable def lookB : List BRow → BinOp → Value → Value → Option Value
  | [], _, _, _ => none
  | r :: l, op, x, y => cond (decide (r.op = op) && (veq r.x x && veq r.y y)) (some r.v) (lookB l op x y)
def BRow.ok (P : Program) (r : BRow) : Prop := Wf 0 r.v ∧ ∀ γ w t, (binOp r.op t (ren γ r.x) (ren γ r.y)).run P w = .ok (ren γ r.v) w
theorem lookB_ok : ∀ (l : List BRow), (∀ r ∈ l, r.ok P) → ∀ op x y v, lookB l op x y = some v → Wf 0 v ∧ ∀ γ w t, (binOp op t (ren γ x) (ren γ y)).run P w = .ok (ren γ v) w
  | [], _, op, x, y, v, h => by cases h
  | r :: l, hl, op, x, y, v, h => by
    simp only [lookB] at h
    cases hc : (decide (r.op = op) && (veq r.x x && veq r.y y)) with
    | true =>
      rw [hc, cond_true] at h
      injection h with h; subst h
      simp only [Bool.and_eq_true, decide_eq_true_eq] at hc
      obtain ⟨h1, h2, h3⟩ := hc
      have h2 := veq_spec _ _ h2
      have h3 := veq_spec _ _ h3
      subst h1 h2 h3
      exact hl r (by simp)
    | false =>
      rw [hc, cond_false] at h
      exact lookB_ok l (fun r hr => hl r (by simp [hr])) op x y v h
structure URow where
  op : UnOp
  x : Value
  v : Value
noncomputable def lookU : List URow → UnOp → Value → Option Value
  | [], _, _ => none
  | r :: l, op, x => cond (decide (r.op = op) && veq r.x x) (some r.v) (lookU l op x)
def URow.ok (P : Program) (r : URow) : Prop := Wf 0 r.v ∧ ∀ γ w, (Op.unary r.op (ren γ r.x)).run P w = .ok (ren γ r.v) w
theorem lookU_ok : ∀ (l : List URow), (∀ r ∈ l, r.ok P) → ∀ op x v, lookU l op x = some v → Wf 0 v ∧ ∀ γ w, (Op.unary op (ren γ x)).run P w = .ok (ren γ v) w
  | [], _, op, x, v, h => by cases h
  | r :: l, hl, op, x, v, h => by
    simp only [lookU] at h
    cases hc : (decide (r.op = op) && veq r.x x) with
    | true =>
      rw [hc, cond_true] at h
      injection h with h; subst h
      simp only [Bool.and_eq_true, decide_eq_true_eq] at hc
      obtain ⟨h1, h2⟩ := hc
      have h2 := veq_spec _ _ h2
      subst h1 h2
      exact hl r (by simp)
    | false =>
      rw [hc, cond_false] at h
      exact lookU_ok l (fun r hr => hl r (by simp [hr])) op x v h
structure CRow where
  a : TypeId
  b : TypeId
  x : Value
  v : Value
noncomputable def lookC : List CRow → TypeId → TypeId → Value → Option Value
  | [], _, _, _ => none
  | r :: l, a, b, x => cond (Nat.beq r.a a && (Nat.beq r.b b && veq r.x x)) (some r.v) (lookC l a b x)
def CRow.ok (P : Program) (r : CRow) : Prop := Wf 0 r.v ∧ ∀ γ w, (convert r.a r.b (ren γ r.x)).run P w = .ok (ren γ r.v) w
theorem lookC_ok : ∀ (l : List CRow), (∀ r ∈ l, r.ok P) → ∀ a b x v, lookC l a b x = some v → Wf 0 v ∧ ∀ γ w, (convert a b (ren γ x)).run P w = .ok (ren γ v) w
  | [], _, a, b, x, v, h => by cases h
  | r :: l, hl, a, b, x, v, h => by
    simp only [lookC] at h
    cases hc : (Nat.beq r.a a && (Nat.beq r.b b && veq r.x x)) with
    | true =>
      rw [hc, cond_true] at h
      injection h with h; subst h
      simp only [Bool.and_eq_true] at hc
      obtain ⟨h1, h2, h3⟩ := hc
      have h1 := Nat.eq_of_beq_eq_true h1
      have h2 := Nat.eq_of_beq_eq_true h2
      have h3 := veq_spec _ _ h3
      subst h1 h2 h3
      exact hl r (by simp)
    | false =>
      rw [hc, cond_false] at h
      exact lookC_ok l (fun r hr => hl r (by simp [hr])) a b x v h
@[reducible] noncomputable def tabSym (b : List BRow) (u : List URow) (c : List CRow) : Sym := ⟨lookB b, lookU u, lookC c, fun _ => none⟩
theorem tabSym_ok {b : List BRow} {u : List URow} {c : List CRow} (hb : ∀ r ∈ b, r.ok P) (hu : ∀ r ∈ u, r.ok P) (hc : ∀ r ∈ c, r.ok P) : @SymOk _ (tabSym b u c) P :=
  @SymOk.mk _ (tabSym b u c) P (lookB_ok b hb) (lookU_ok u hu) (lookC_ok c hc) (fun _ _ _ h => by cases h)

/-- A row of what is known of calls: the function, its arguments, its result; all is left as it was. -/
structure ORow where
  g : Nat
  args : List Value
  v : Value
noncomputable def lookO : List ORow → FuncId → List Value → Option Value
  | [], _, _ => none
  | r :: l, g, args => cond (Nat.beq r.g g && veqL r.args args) (some r.v) (lookO l g args)
def ORow.ok (P : Program) (r : ORow) : Prop := Wf 0 r.v ∧ ∀ (γ : Gh) (w : World), Calls P r.g (r.args.map (ren γ)).toArray w fun e w' => e = .returned (ren γ r.v) ∧ Below w.heap.size w w'
theorem lookO_ok : ∀ (l : List ORow), (∀ r ∈ l, r.ok P) → ∀ g args v, lookO l g args = some v → ∀ B γ s w, R B γ s w → (∀ v ∈ args, Wf s.n v) → Calls P g (args.map (ren γ)).toArray w (RetOk B γ s w v s)
  | [], _ => fun g args v h => by cases h
  | r :: l, hl => fun g args v h => by
    simp only [lookO] at h
    cases hc : (Nat.beq r.g g && veqL r.args args) with
    | true =>
      rw [hc, cond_true] at h
      injection h with h; subst h
      simp only [Bool.and_eq_true] at hc
      obtain ⟨h1, h2⟩ := hc
      have h1 := Nat.eq_of_beq_eq_true h1
      have h2 := veqL_spec _ _ h2
      subst h1 h2
      obtain ⟨h3, h4⟩ := hl r (by simp)
      exact orc_row h3 h4
    | false =>
      rw [hc, cond_false] at h
      exact lookO_ok l (fun r hr => hl r (by simp [hr])) g args v h

/-- One more element ahead of the last ones of a slice whose room is not known. -/
noncomputable def evIns (elem : TypeId) (s : St) (args : List Value) : Option (Value × St) :=
  match args with
  | [.slice (some a) n c, .int .i64 i, .slice (some v) 1 _] =>
    if (s.obj a.block).live = true ∧ (s.obj a.block).opn = true ∧ (s.obj a.block).sz = 1 ∧ (s.obj a.block).elem = elem ∧ c = n ∧ a.off + n = (s.obj a.block).len ∧ 0 ≤ i ∧ i < (n : Int) ∧ n < 1000000000 ∧
        (s.obj v.block).live = true ∧ (s.obj v.block).raw = true ∧ ¬ v.block = a.block then
      match ldL s a n, ldL s v 1 with
      | some l, some [x] => if (x :: l).all (·.oneCell') = true then
          some (.slice (some ⟨s.n, 0, none⟩) (n + 1) (n + 1), (s.setO a.block deadO).mkR (s.obj a.block).raw elem 1 true (l.take i.toNat ++ x :: l.drop i.toNat))
        else none
      | _, _ => none
    else none
  | _ => none
structure InsOk (P : Program) (g : FuncId) (elem : TypeId) (z : Value) : Prop where
  one : z.cells.size = 1
  shift : ∀ (b off n c i vb voff vc : Nat) (cs vs : List Value) (w : World) (_ : i < n) (_ : n + 1 ≤ c) (_ : n + 1 ≤ 1099511627) (_ : vb ≠ b)
    (_ : cs.length = n) (_ : vs.length = 1)
    (_ : ∀ j v, cs[j]? = some v → w.cell? ⟨b, off + j, none⟩ = some v) (_ : ∀ j, j < n + 1 → (w.cell? ⟨b, off + j, none⟩).isSome = true) (_ : ∀ j, j < n + 1 → w.frozen? ⟨b, off + j, none⟩ = false)
    (_ : ∀ j v, vs[j]? = some v → w.cell? ⟨vb, voff + j, none⟩ = some v) (_ : ∀ v ∈ cs, v.oneCell' = true) (_ : ∀ v ∈ vs, v.oneCell' = true)
    (tA tB : TypeId) (kA kB : Nat) (_ : w.shape? vb = some (tA, kA)) (_ : w.shape? b = some (tB, kB)) (_ : kB ≠ 0) (_ : w.frozen? ⟨vb, voff, none⟩ = false) (_ : w.frozen? ⟨vb, kA, none⟩ = false),
    Calls P g #[.slice (some ⟨b, off, none⟩) n c, .int .i64 i, .slice (some ⟨vb, voff, none⟩) 1 vc] w fun e w' =>
      e = .returned (.slice (some ⟨b, off, none⟩) (n + 1) c) ∧ w' = (w.drew.setCells b (off + (i + 1)) (cs.drop i)).setCells b (off + i) vs
  grow : ∀ (b off n i vb voff vc : Nat) (cs vs : List Value) (w : World) (_ : i < n) (_ : n + 1 ≤ 1099511627) (_ : vb < w.heap.size) (_ : b < w.heap.size)
    (_ : cs.length = n) (_ : vs.length = 1)
    (_ : ∀ j v, cs[j]? = some v → w.cell? ⟨b, off + j, none⟩ = some v)
    (_ : ∀ j v, vs[j]? = some v → w.cell? ⟨vb, voff + j, none⟩ = some v) (_ : ∀ v ∈ cs, v.oneCell' = true) (_ : ∀ v ∈ vs, v.oneCell' = true),
    Calls P g #[.slice (some ⟨b, off, none⟩) n n, .int .i64 i, .slice (some ⟨vb, voff, none⟩) 1 vc] w fun e w' =>
      e = .returned (.slice (some ⟨w.heap.size, 0, none⟩) (n + 1) (grownCap w (n + 1) n elem)) ∧
      w' = ((w.drew.alloc (.cells ((cs.take i).toArray ++ Builtin.zeroCells z.cells (n + 1 - i) ++ Builtin.zeroCells z.cells (grownCap w (n + 1) n elem - (n + 1))) elem)).setCells w.heap.size i vs).drew.setCells w.heap.size (i + 1) (cs.drop i)

theorem setCells_at {w : World} {b o : Nat} {vs : List Value} {c : Array Value} {t : TypeId} {fz : Nat × Nat} (h : w.heap[b]? = some (.cells c t fz)) :
    ∃ c', (w.setCells b o vs).heap[b]? = some (.cells c' t fz) ∧ c'.size = c.size ∧ ∀ k, k < c.size → c'[k]? = if o ≤ k ∧ k < o + vs.length then vs[k - o]? else c[k]? := by
  refine ⟨_, setCells_heap b vs o w c t fz h, by simp, fun k hk => ?_⟩
  rw [List.getElem?_toArray, List.getElem?_mapIdx, Array.getElem?_toList, Array.getElem?_eq_getElem hk]
  simp only [Option.map_some]
  split
  · rename_i hr
    rw [List.getD, List.getElem?_eq_getElem (by omega)]; rfl
  · rfl
theorem spliced (l : List Value) (x : Value) (i k : Nat) (hi : i ≤ l.length) (hk : k < l.length + 1) : (l.take i ++ x :: l.drop i).getD k undef = if k < i then l.getD k undef else if k = i then x else l.getD (k - 1) undef := by
  by_cases h1 : k < i
  · rw [if_pos h1, List.getD, List.getElem?_append_left (by rw [List.length_take]; omega), List.getElem?_take, if_pos h1]; rfl
  · rw [if_neg h1, List.getD, List.getElem?_append_right (by rw [List.length_take]; omega), List.length_take, Nat.min_eq_left hi]
    by_cases h2 : k = i
    · subst h2; rw [if_pos rfl, Nat.sub_self]; rfl
    · rw [if_neg h2]
      obtain ⟨j, rfl⟩ : ∃ j, k = i + 1 + j := ⟨k - (i + 1), by omega⟩
      rw [show i + 1 + j - i = j + 1 from by omega, List.getElem?_cons_succ, List.getElem?_drop, show i + 1 + j - 1 = i + j from by omega]; rfl
theorem evIns_ok {g : FuncId} {elem : TypeId} {z : Value} (hI : InsOk P g elem z) {args : List Value} {v : Value} {s' : St} (he : evIns elem s args = some (v, s')) (hR : R B γ s w) (ha : ∀ v ∈ args, Wf s.n v) :
    Calls P g (args.map (ren γ)).toArray w (RetOk B γ s w v s') := by
  unfold evIns at he
  split at he
  case h_2 => cases he
  rename_i a n c i u uc
  split at he
  case isFalse => cases he
  rename_i hc
  obtain ⟨hla, hop, hsz, hel, rfl, hend, hi0, hin, hn9, hlu, hru, hne⟩ := hc
  split at he
  case h_2 => cases he
  rename_i l x hl hx
  split at he
  case isFalse => cases he
  rename_i hone
  injection he with he; injection he with h1 h2; subst h1 h2
  obtain ⟨i, rfl⟩ : ∃ k : Nat, i = (k : Int) := ⟨i.toNat, by omega⟩
  have hin' : i < c := by omega
  simp only [Int.toNat_natCast]
  obtain ⟨cA, fA, qA, fzA, szA, ceA⟩ := hR.obj _ hla
  obtain ⟨cU, fU, qU, fzU, szU, ceU⟩ := hR.obj _ hlu
  obtain ⟨_, hwl, hll⟩ := hR.ld (P := P) hl
  obtain ⟨_, hwx, _⟩ := hR.ld (P := P) hx
  have hfU : fU = (0, 0) := by
    rcases fzU with ⟨_, h⟩ | h
    · rw [hru] at h; cases h
    · exact h
  subst hfU
  have hlv : (s.obj a.block).live = true ∧ a.off + c ≤ (s.obj a.block).len := by
    unfold ldL at hl; split at hl
    · assumption
    · cases hl
  have huv : (s.obj u.block).live = true ∧ u.off + 1 ≤ (s.obj u.block).len := by
    unfold ldL at hx; split at hx
    · assumption
    · cases hx
  have hget : ∀ j, j < c → cA[γ.off a.block + a.off + j]? = some (ren γ (l.getD j undef)) := by
    intro j hj
    have h1 := ceA (a.off + j) (by omega)
    rw [← Nat.add_assoc] at h1
    rw [h1]
    unfold ldL at hl
    rw [if_pos hlv] at hl
    injection hl with hl
    rw [← hl, List.getD, cut_get, if_pos hj]; rfl
  have hgetU : cU[γ.off u.block + u.off]? = some (ren γ x) := by
    have h1 := ceU u.off (by omega)
    rw [h1]
    unfold ldL at hx
    rw [if_pos huv] at hx
    injection hx with hx
    rw [cut_succ] at hx
    injection hx with hx _
    rw [hx]
  have hbne : γ.blk u.block ≠ γ.blk a.block := fun e => hne (hR.inj _ _ hlu hla e)
  have hcs : ∀ j v, (l.map (ren γ))[j]? = some v → w.cell? ⟨γ.blk a.block, γ.off a.block + a.off + j, none⟩ = some v := by
    intro j v hj
    have hjl : j < c := by
      rcases Nat.lt_or_ge j c with h | h
      · exact h
      · rw [List.getElem?_eq_none (by rw [List.length_map, hll]; exact h)] at hj; cases hj
    simp only [World.cell?, qA]
    rw [hget j hjl]
    rw [List.getElem?_map, List.getElem?_eq_getElem (by omega)] at hj
    rw [List.getD, List.getElem?_eq_getElem (by omega)]
    exact hj
  have hvs : ∀ j v, [ren γ x][j]? = some v → w.cell? ⟨γ.blk u.block, γ.off u.block + u.off + j, none⟩ = some v := by
    intro j v hj
    cases j with
    | zero => simp only [World.cell?, qU, Nat.add_zero]; rw [hgetU]; simpa using hj
    | succ j => simp at hj
  have ren1 : ∀ y : Value, y.oneCell' = true → (ren γ y).oneCell' = true := by
    intro y hy
    cases y with
    | agg c => exact absurd hy (by simp [Value.oneCell'])
    | tuple c => exact absurd hy (by simp [Value.oneCell'])
    | func fn f c => rw [ren_func]; rfl
    | pointer a => cases a <;> rfl
    | slice a l c => cases a <;> rfl
    | map a => cases a <;> rfl
    | _ => rfl
  have hall := List.all_eq_true.1 hone
  have h1c : ∀ v ∈ l.map (ren γ), v.oneCell' = true := fun v hv => by
    obtain ⟨y, hy, rfl⟩ := List.mem_map.1 hv
    exact ren1 y (hall y (by simp [hy]))
  have h1v : ∀ v ∈ [ren γ x], v.oneCell' = true := fun v hv => by
    have : v = ren γ x := by simpa using hv
    subst this; exact ren1 x (hall x (by simp))
  have hwf : ∀ y ∈ l.take i ++ x :: l.drop i, Wf s.n y := by
    intro y hy
    rcases List.mem_append.1 hy with h | h
    · exact hwl y (List.mem_of_mem_take h)
    · rcases List.mem_cons.1 h with rfl | h
      · exact hwx _ (by simp)
      · exact hwl y (List.mem_of_mem_drop h)
  have hlen : (l.take i ++ x :: l.drop i).length = c + 1 := by
    rw [List.length_append, List.length_take, List.length_cons, List.length_drop, hll]; omega
  have hRk := hR.kill a.block
  have hkn : (s.setO a.block deadO).n = s.n := rfl
  have hold0 : ∀ k, ((s.setO a.block deadO).obj k).live = true → (s.obj k).live = true ∧ k ≠ a.block := by
    intro k hk
    rw [setO_obj] at hk
    split at hk
    · exact absurd hk (by decide)
    · rename_i hne'; exact ⟨hk, hne'⟩
  rw [hsz, Nat.mul_one] at szA
  have hnew : ∀ k, k < c + 1 → (l.take i ++ x :: l.drop i).getD k undef = if k < i then l.getD k undef else if k = i then x else l.getD (k - 1) undef :=
    fun k hk => spliced l x i k (by omega) (by omega)
  have hdrop : ∀ m, m < c - i → ((l.map (ren γ)).drop i)[m]? = some (ren γ (l.getD (i + m) undef)) := by
    intro m hm
    rw [List.getElem?_drop, List.getElem?_map, List.getElem?_eq_getElem (by omega), List.getD, List.getElem?_eq_getElem (by omega)]; rfl
  have hdl : ((l.map (ren γ)).drop i).length = c - i := by rw [List.length_drop, List.length_map, hll]
  by_cases hroom : 1 ≤ γ.ext a.block
  · -- in place
    have hsizA : c + 1 + (γ.off a.block + a.off) ≤ cA.size := by omega
    have hcell : ∀ k, k < cA.size → (w.cell? ⟨γ.blk a.block, k, none⟩).isSome = true := by
      intro k hk
      simp only [World.cell?, qA]
      rw [Array.getElem?_eq_getElem hk]; rfl
    have hfro : ∀ k, k < cA.size → w.frozen? ⟨γ.blk a.block, k, none⟩ = false := by
      intro k hk
      simp only [World.frozen?, qA]
      rcases fzA with ⟨h, _⟩ | rfl
      · simp; omega
      · simp
    have hcall := hI.shift (γ.blk a.block) (γ.off a.block + a.off) c (c + γ.ext a.block) i (γ.blk u.block) (γ.off u.block + u.off) (uc + γ.ext u.block) (l.map (ren γ)) [ren γ x] w hin' (by omega) (by omega) hbne
      (by rw [List.length_map, hll]) rfl hcs (fun k hk => hcell _ (by omega)) (fun k hk => hfro _ (by omega)) hvs h1c h1v (s.obj u.block).elem (s.obj a.block).elem cU.size cA.size
      (by simp only [World.shape?, qU]) (by simp only [World.shape?, qA]) (by omega) (by simp only [World.frozen?, qU]; simp) (by simp only [World.frozen?, qU]; simp)
    have hargs : (([.slice (some a) c c, .int .i64 (i : Int), .slice (some u) 1 uc] : List Value).map (ren γ)).toArray = #[.slice (some ⟨γ.blk a.block, γ.off a.block + a.off, none⟩) c (c + γ.ext a.block), .int .i64 i, .slice (some ⟨γ.blk u.block, γ.off u.block + u.off, none⟩) 1 (uc + γ.ext u.block)] := by
      simp [ren, Gh.at]
    rw [hargs]
    refine hcall.mono ?_
    rintro e w' ⟨rfl, rfl⟩
    obtain ⟨c1, q1, s1, g1⟩ := setCells_at (w := w.drew) (o := γ.off a.block + a.off + (i + 1)) (vs := (l.map (ren γ)).drop i) qA
    obtain ⟨c2, q2, s2, g2⟩ := setCells_at (o := γ.off a.block + a.off + i) (vs := [ren γ x]) q1
    have hoth : ∀ k, k ≠ γ.blk a.block → ((w.drew.setCells (γ.blk a.block) (γ.off a.block + a.off + (i + 1)) ((l.map (ren γ)).drop i)).setCells (γ.blk a.block) (γ.off a.block + a.off + i) [ren γ x]).heap[k]? = w.heap[k]? := by
      intro k hk
      rw [setCells_other _ _ _ _ _ hk, setCells_other _ _ _ _ _ hk]; rfl
    have hB := hR.low _ hla
    have hbel : Fr B w ((w.drew.setCells (γ.blk a.block) (γ.off a.block + a.off + (i + 1)) ((l.map (ren γ)).drop i)).setCells (γ.blk a.block) (γ.off a.block + a.off + i) [ren γ x]) :=
      (((Fr.refl B w).drew).trans (setCells_below _ hB _ _ _)).trans (setCells_below _ hB _ _ _)
    have hR3 := hRk.more (w' := (w.drew.setCells (γ.blk a.block) (γ.off a.block + a.off + (i + 1)) ((l.map (ren γ)).drop i)).setCells (γ.blk a.block) (γ.off a.block + a.off + i) [ren γ x]) (elem := elem) (sz := 1) (raw := (s.obj a.block).raw) (opn := true) (vs := l.take i ++ x :: l.drop i)
      (b := γ.blk a.block) (o := γ.off a.block + a.off) (e := γ.ext a.block - 1) (c := c2) (fz := fA)
      (fun k hk => by
        have hne' : γ.blk k ≠ γ.blk a.block := fun e => (hold0 k hk).2 (hR.inj _ _ (hold0 k hk).1 hla e)
        exact ⟨hoth _ hne', hne'⟩)
      (fun k hk => hoth _ (fun e => by have := hR.m.obj k hk; rw [e, qA] at this; cases this)) (by rw [hel] at q2; exact q2) (by rw [s2, s1]; exact fzA) (by rw [hlen, s2, s1]; omega)
      (fun k hk => by
        rw [hlen] at hk
        rw [hnew k hk, g2 _ (by omega)]
        by_cases h2 : k = i
        · subst h2
          rw [if_pos (by simp), if_neg (by omega), if_pos rfl]; simp
        · rw [if_neg (by simp; omega), g1 _ (by omega), hdl]
          by_cases h1 : i + 1 ≤ k
          · rw [if_pos (by omega), if_neg (by omega), if_neg h2]
            rw [show γ.off a.block + a.off + k - (γ.off a.block + a.off + (i + 1)) = k - (i + 1) from by omega, hdrop _ (by omega)]
            rw [show i + (k - (i + 1)) = k - 1 from by omega]
          · rw [if_neg (by omega), if_pos (by omega)]
            exact hget k (by omega))
      hwf (fun h => by cases h) hB (fun k hk => Nat.lt_of_lt_of_le (hR.bnd k hk) hbel.size)
    refine ⟨γ.put s.n (γ.blk a.block) (γ.off a.block + a.off) (γ.ext a.block - 1), ?_, Ext.put _ _ _ _ _, hR3, Nat.lt_succ_self _, hbel, Nat.le_succ _⟩
    congr 1
    simp only [ren, Gh.at, Gh.put, if_true, Nat.add_zero]
    congr 1
    omega
  · -- a new row
    have he0 : γ.ext a.block = 0 := by omega
    have hcall := hI.grow (γ.blk a.block) (γ.off a.block + a.off) c i (γ.blk u.block) (γ.off u.block + u.off) (uc + γ.ext u.block) (l.map (ren γ)) [ren γ x] w hin' (by omega) (hR.blk_lt hlu) (hR.blk_lt hla)
      (by rw [List.length_map, hll]) rfl hcs hvs h1c h1v
    have hargs : (([.slice (some a) c c, .int .i64 (i : Int), .slice (some u) 1 uc] : List Value).map (ren γ)).toArray = #[.slice (some ⟨γ.blk a.block, γ.off a.block + a.off, none⟩) c c, .int .i64 i, .slice (some ⟨γ.blk u.block, γ.off u.block + u.off, none⟩) 1 (uc + γ.ext u.block)] := by
      simp [ren, Gh.at, he0]
    rw [hargs]
    refine hcall.mono ?_
    obtain ⟨cap, hcap⟩ : ∃ cap, cap = grownCap w (c + 1) c elem := ⟨_, rfl⟩
    have hcl : c + 1 ≤ cap := by rw [hcap]; simp [grownCap, Question.cut]
    rw [← hcap]
    obtain ⟨row, hrow⟩ : ∃ row : Array Value, row = ((l.map (ren γ)).take i).toArray ++ Builtin.zeroCells z.cells (c + 1 - i) ++ Builtin.zeroCells z.cells (cap - (c + 1)) := ⟨_, rfl⟩
    rw [← hrow]
    have hrs : row.size = cap := by
      rw [hrow]; simp [zeroCells_size, hI.one, hll]; omega
    have hrow1 : ∀ k, k < i → row[k]? = some (ren γ (l.getD k undef)) := by
      intro k hk
      have hk1 : k < ((l.map (ren γ)).take i).toArray.size := by simp [hll]; omega
      rw [hrow, Array.append_assoc, Array.getElem?_append_left hk1, List.getElem?_toArray, List.getElem?_take, if_pos hk, List.getElem?_map, List.getElem?_eq_getElem (by omega), List.getD, List.getElem?_eq_getElem (by omega)]; rfl
    rintro e w' ⟨rfl, rfl⟩
    have hH : (w.drew.alloc (.cells row elem)).heap[w.heap.size]? = some (.cells row elem (0, 0)) := by
      show (w.heap.push _)[w.heap.size]? = _
      simp
    obtain ⟨c1, q1, s1, g1⟩ := setCells_at (o := i) (vs := [ren γ x]) hH
    obtain ⟨c2, q2, s2, g2⟩ := setCells_at (w := ((w.drew.alloc (.cells row elem)).setCells w.heap.size i [ren γ x]).drew) (o := i + 1) (vs := (l.map (ren γ)).drop i) q1
    have hoth : ∀ k, k < w.heap.size → (((w.drew.alloc (.cells row elem)).setCells w.heap.size i [ren γ x]).drew.setCells w.heap.size (i + 1) ((l.map (ren γ)).drop i)).heap[k]? = w.heap[k]? := by
      intro k hk
      rw [setCells_other _ _ _ _ _ (Nat.ne_of_lt hk)]
      show ((w.drew.alloc (.cells row elem)).setCells w.heap.size i [ren γ x]).heap[k]? = _
      rw [setCells_other _ _ _ _ _ (Nat.ne_of_lt hk)]
      exact Below.heap_alloc w.drew _ k hk
    have hB := hR.bnd
    have hBH : ¬ B w.heap.size := fun hq => Nat.lt_irrefl _ (hB _ hq)
    have hbel : Fr B w (((w.drew.alloc (.cells row elem)).setCells w.heap.size i [ren γ x]).drew.setCells w.heap.size (i + 1) ((l.map (ren γ)).drop i)) :=
      ((((Fr.refl B w).drew.alloc hB _).trans (setCells_below _ hBH _ _ _)).drew).trans (setCells_below _ hBH _ _ _)
    have hR3 := hRk.more (w' := ((w.drew.alloc (.cells row elem)).setCells w.heap.size i [ren γ x]).drew.setCells w.heap.size (i + 1) ((l.map (ren γ)).drop i)) (elem := elem) (sz := 1) (raw := (s.obj a.block).raw) (opn := true) (vs := l.take i ++ x :: l.drop i)
      (b := w.heap.size) (o := 0) (e := cap - (c + 1)) (c := c2) (fz := (0, 0))
      (fun k hk => ⟨hoth _ (hR.blk_lt (hold0 k hk).1), Nat.ne_of_lt (hR.blk_lt (hold0 k hk).1)⟩)
      (fun k hk => hoth _ (hR.mblk_lt hk)) q2 (Or.inr rfl) (by rw [hlen, s2, s1, hrs]; omega)
      (fun k hk => by
        rw [hlen] at hk
        rw [Nat.zero_add, hnew k hk, g2 k (by omega), hdl]
        by_cases h1 : i + 1 ≤ k
        · rw [if_pos (by omega), if_neg (by omega), if_neg (by omega), hdrop _ (by omega)]
          rw [show i + (k - (i + 1)) = k - 1 from by omega]
        · rw [if_neg (by omega), g1 k (by omega)]
          by_cases h2 : k = i
          · subst h2; simp
          · rw [if_neg (by simp; omega), if_pos (by omega), hrow1 k (by omega)])
      hwf (fun h => by cases h) hBH (fun k hk => Nat.lt_of_lt_of_le (hB k hk) hbel.size)
    refine ⟨γ.put s.n w.heap.size 0 (cap - (c + 1)), ?_, Ext.put _ _ _ _ _, hR3, Nat.lt_succ_self _, hbel, Nat.le_succ _⟩
    congr 1
    simp only [ren, Gh.at, Gh.put, if_true, Nat.add_zero]
    congr 1
    omega

theorem ren_one (γ : Gh) {y : Value} (hy : y.oneCell' = true) : (ren γ y).oneCell' = true := by
  cases y with
  | agg c => exact absurd hy (by simp [Value.oneCell'])
  | tuple c => exact absurd hy (by simp [Value.oneCell'])
  | func fn f c => rw [ren_func]; rfl
  | pointer a => cases a <;> rfl
  | slice a l c => cases a <;> rfl
  | map a => cases a <;> rfl
  | _ => rfl
theorem R.st_eq (P : Program) (h : R B γ s w) {a : Addr} {vs : List Value} {s' : St} (hs : stL s a vs = some s') (hwf : ∀ v ∈ vs, Wf s.n v) :
    R B γ s' (w.setCells (γ.blk a.block) (γ.off a.block + a.off) (vs.map (ren γ))) ∧ Fr B w (w.setCells (γ.blk a.block) (γ.off a.block + a.off) (vs.map (ren γ))) ∧ s'.n = s.n := by
  obtain ⟨w', hrun, hR', hb, hn⟩ := h.st (P := P) hs hwf
  unfold stL at hs
  split at hs
  case isFalse => cases hs
  rename_i hc
  obtain ⟨hlv, hle, hone⟩ := hc
  obtain ⟨c, fz, hblk, hf, hsz, hcell⟩ := h.obj _ hlv
  have hrun2 := run_storeCells_cells (P := P) (γ.blk a.block) (γ.off a.block + a.off) (vs.map (ren γ)) 0 w
    (fun j hj => by
      rw [List.length_map] at hj
      rw [Nat.add_zero, Nat.add_assoc, h.cell hlv (by omega)]; rfl)
    (fun j hj => by
      rw [List.length_map] at hj
      rw [Nat.add_zero, Nat.add_assoc]; exact h.frozen hlv (by omega))
    (fun v hv => by
      obtain ⟨x, hx, rfl⟩ := List.mem_map.1 hv
      exact ren_one γ (List.all_eq_true.1 hone x hx))
  rw [Nat.add_zero] at hrun2
  have hat : (γ.at a) = ⟨γ.blk a.block, γ.off a.block + a.off, none⟩ := rfl
  rw [hat, hrun2] at hrun
  injection hrun with _ hw
  subst hw
  exact ⟨hR', hb, hn⟩
/-- One element is taken out of a slice. -/
noncomputable def evDel (z : Value) (s : St) (args : List Value) : Option (Value × St) :=
  match args with
  | [.slice (some a) n c, .int .i64 i, .int .i64 j] =>
    if (s.obj a.block).live = true ∧ (s.obj a.block).opn = true ∧ j = i + 1 ∧ 0 ≤ i ∧ i < (n : Int) ∧ n < 1000000000 ∧ n ≤ c then
      match ldL s a n with
      | some l => if l.all (·.oneCell') = true then
          match stL s ⟨a.block, a.off + i.toNat, none⟩ (l.drop (i.toNat + 1)) with
          | some s1 => (stL s1 ⟨a.block, a.off + (n - 1), none⟩ [z]).map fun s2 => (.slice (some a) (n - 1) c, s2)
          | none => none
        else none
      | none => none
    else none
  | _ => none
structure DelOk (P : Program) (g : FuncId) (z : Value) : Prop where
  flat : flat1 z = true
  del : ∀ (b off n c i : Nat) (cs : List Value) (w : World) (_ : i < n) (_ : n ≤ c) (_ : n + 1 ≤ 1099511627)
    (_ : cs.length = n)
    (_ : ∀ j v, cs[j]? = some v → w.cell? ⟨b, off + j, none⟩ = some v) (_ : ∀ j, j < n → (w.cell? ⟨b, off + j, none⟩).isSome = true) (_ : ∀ j, j < n → w.frozen? ⟨b, off + j, none⟩ = false)
    (_ : ∀ v ∈ cs, v.oneCell' = true),
    Calls P g #[.slice (some ⟨b, off, none⟩) n c, .int .i64 i, .int .i64 ((i : Int) + 1)] w fun e w' =>
      e = .returned (.slice (some ⟨b, off, none⟩) (n - 1) c) ∧ w' = (w.drew.setCells b (off + i) (cs.drop (i + 1))).setCells b (off + (n - 1)) [z]
theorem evDel_ok {g : FuncId} {z : Value} (hD : DelOk P g z) {args : List Value} {v : Value} {s' : St} (he : evDel z s args = some (v, s')) (hR : R B γ s w) (ha : ∀ v ∈ args, Wf s.n v) :
    Calls P g (args.map (ren γ)).toArray w (RetOk B γ s w v s') := by
  unfold evDel at he
  split at he
  case h_2 => cases he
  rename_i a n c i j
  split at he
  case isFalse => cases he
  rename_i hc
  obtain ⟨hla, hop, rfl, hi0, hin, hn9, hnc⟩ := hc
  split at he
  case h_2 => cases he
  rename_i l hl
  split at he
  case isFalse => cases he
  rename_i hone
  split at he
  case h_2 => cases he
  rename_i s1 hs1
  cases hs2 : stL s1 ⟨a.block, a.off + (n - 1), none⟩ [z] with
  | none => rw [hs2] at he; cases he
  | some s2 =>
    rw [hs2] at he
    injection he with he; injection he with h1 h2; subst h1 h2
    obtain ⟨i, rfl⟩ : ∃ k : Nat, i = (k : Int) := ⟨i.toNat, by omega⟩
    have hin' : i < n := by omega
    simp only [Int.toNat_natCast] at hs1
    obtain ⟨_, hwl, hll⟩ := hR.ld (P := P) hl
    have hlv : (s.obj a.block).live = true ∧ a.off + n ≤ (s.obj a.block).len := by
      unfold ldL at hl; split at hl
      · assumption
      · cases hl
    have hall := List.all_eq_true.1 hone
    have hcs : ∀ j v, (l.map (ren γ))[j]? = some v → w.cell? ⟨γ.blk a.block, γ.off a.block + a.off + j, none⟩ = some v := by
      intro j v hj
      have hjl : j < n := by
        rcases Nat.lt_or_ge j n with h | h
        · exact h
        · rw [List.getElem?_eq_none (by rw [List.length_map, hll]; exact h)] at hj; cases hj
      rw [Nat.add_assoc, hR.cell hlv.1 (by omega), ← hj, List.getElem?_map]
      unfold ldL at hl
      rw [if_pos hlv] at hl
      injection hl with hl
      rw [← hl, cut_get, if_pos hjl]; rfl
    have hcall := hD.del (γ.blk a.block) (γ.off a.block + a.off) n (c + γ.ext a.block) i (l.map (ren γ)) w hin' (by omega) (by omega) (by rw [List.length_map, hll]) hcs
      (fun j hj => by rw [Nat.add_assoc, hR.cell hlv.1 (by omega)]; rfl) (fun j hj => by rw [Nat.add_assoc]; exact hR.frozen hlv.1 (by omega))
      (fun v hv => by
        obtain ⟨y, hy, rfl⟩ := List.mem_map.1 hv
        exact ren_one γ (hall y hy))
    have hargs : (([.slice (some a) n c, .int .i64 (i : Int), .int .i64 ((i : Int) + 1)] : List Value).map (ren γ)).toArray = #[.slice (some ⟨γ.blk a.block, γ.off a.block + a.off, none⟩) n (c + γ.ext a.block), .int .i64 i, .int .i64 ((i : Int) + 1)] := by
      simp [ren, Gh.at]
    rw [hargs]
    refine hcall.mono ?_
    rintro e w' ⟨rfl, rfl⟩
    have hRd : R B γ s w.drew := hR.of_heap rfl
    obtain ⟨q1, q2, q3⟩ := hRd.st_eq P hs1 (fun v hv => hwl v (List.mem_of_mem_drop hv))
    obtain ⟨r1, r2, r3⟩ := q1.st_eq P hs2 (fun v hv => by
      have : v = z := by simpa using hv
      subst this; exact flat1_wf _ hD.flat)
    have e1 : (l.drop (i + 1)).map (ren γ) = (l.map (ren γ)).drop (i + 1) := by rw [List.map_drop]
    have e2 : ([z] : List Value).map (ren γ) = [z] := by simp [flat1_ren γ hD.flat]
    rw [e1] at q2 r1 r2
    rw [e2] at r1 r2
    simp only [← Nat.add_assoc] at q2 r1 r2
    refine ⟨γ, ?_, Ext.refl _ _, ?_, ?_, ?_, by omega⟩
    · simp [ren, Gh.at]
    · rw [Nat.add_assoc]; rw [Nat.add_assoc] at r1; simpa only [Nat.add_assoc] using r1
    · show a.block < s2.n
      have := hR.lt _ hla; omega
    · have := ((Fr.refl B w).drew.trans q2).trans r2
      simpa only [Nat.add_assoc] using this
noncomputable def lookI : List (Nat × TypeId) → Orc
  | [], _, _, _ => none
  | p :: l, g, args, s => cond (Nat.beq p.1 g) (evIns p.2 s args) (lookI l g args s)
noncomputable def lookD : List (Nat × Value) → Orc
  | [], _, _, _ => none
  | p :: l, g, args, s => cond (Nat.beq p.1 g) (evDel p.2 s args) (lookD l g args s)
theorem lookD_ok : ∀ (l : List (Nat × Value)), (∀ p ∈ l, DelOk P p.1 p.2) → OrcOk P (lookD l)
  | [], _ => fun g args s v s' h => by cases h
  | p :: l, hl => fun g args s v s' h => by
    simp only [lookD] at h
    cases hc : Nat.beq p.1 g with
    | true =>
      rw [hc, cond_true] at h
      have := Nat.eq_of_beq_eq_true hc
      subst this
      intro B γ w hR ha
      exact evDel_ok (hl p (by simp)) h hR ha
    | false =>
      rw [hc, cond_false] at h
      exact lookD_ok l (fun q hq => hl q (by simp [hq])) g args s v s' h
noncomputable def orcOf (rows : List ORow) (ins : List (Nat × TypeId)) (del : List (Nat × Value)) : Orc := fun g args s =>
  match lookO rows g args with
  | some v => some (v, s)
  | none => match lookI ins g args s with
    | some r => some r
    | none => lookD del g args s
theorem lookI_ok : ∀ (l : List (Nat × TypeId)), (∀ p ∈ l, ∃ z, InsOk P p.1 p.2 z) → OrcOk P (lookI l)
  | [], _ => fun g args s v s' h => by cases h
  | p :: l, hl => fun g args s v s' h => by
    simp only [lookI] at h
    cases hc : Nat.beq p.1 g with
    | true =>
      rw [hc, cond_true] at h
      have := Nat.eq_of_beq_eq_true hc
      subst this
      obtain ⟨z, hz⟩ := hl p (by simp)
      intro B γ w hR ha
      exact evIns_ok hz h hR ha
    | false =>
      rw [hc, cond_false] at h
      exact lookI_ok l (fun q hq => hl q (by simp [hq])) g args s v s' h
theorem orcOf_ok {rows : List ORow} {ins : List (Nat × TypeId)} {del : List (Nat × Value)} (hr : ∀ r ∈ rows, r.ok P) (hi : ∀ p ∈ ins, ∃ z, InsOk P p.1 p.2 z) (hd : ∀ p ∈ del, DelOk P p.1 p.2) : OrcOk P (orcOf rows ins del) := by
  intro g args s v s' h
  unfold orcOf at h
  split at h
  · rename_i u hu
    injection h with h; injection h with h1 h2
    subst h1 h2
    intro B γ w hR ha
    exact lookO_ok rows hr g args _ hu B γ s w hR ha
  · split at h
    · rename_i r hr'
      injection h with h
      subst h
      exact lookI_ok ins hi g args s v s' hr'
    · exact lookD_ok del hd g args s v s' h
theorem brow_int {op : BinOp} {x y v : Value} {k : IntKind} {a b : Int} (hs : isShift op = false) (hx : ∀ γ, ren γ x = .int k a) (hy : ∀ γ, ren γ y = .int k b) {u : Value} (he : evInt op k a b = some u) (hv : ∀ γ, ren γ v = u) (hw : Wf 0 v) :
    (BRow.mk op x y v).ok P := ⟨hw, fun γ w t => by simp only; rw [hx, hy, hv]; exact (evInt_run hs he).1⟩
theorem brow_shift {op : BinOp} {x y v : Value} {k k' : IntKind} {a b : Int} (hx : ∀ γ, ren γ x = .int k a) (hy : ∀ γ, ren γ y = .int k' b) {u : Value} (he : evShift op k a b = some u) (hv : ∀ γ, ren γ v = u) (hw : Wf 0 v) :
    (BRow.mk op x y v).ok P := ⟨hw, fun γ w t => by simp only; rw [hx, hy, hv]; exact (evShift_run he).1⟩
theorem brow_str {op : BinOp} {x y v : Value} {a b : ByteArray} (hx : ∀ γ, ren γ x = .string a) (hy : ∀ γ, ren γ y = .string b) {u : Value} (he : evStr op a.data.toList b.data.toList = some u) (hv : ∀ γ, ren γ v = u) (hw : Wf 0 v) :
    (BRow.mk op x y v).ok P := ⟨hw, fun γ w t => by simp only; rw [hx, hy, hv]; exact (evStr_run he).1⟩
theorem crow_int {a b : TypeId} {x v : Value} {k k' : IntKind} {n : Int} {d : TypeDesc} (ha : P.underlying a = some d) (hb : P.underlying b = some (.int k')) (hx : ∀ γ, ren γ x = .int k n) (hv : ∀ γ, ren γ v = .int k' (k'.wrap n)) (hw : Wf 0 v) :
    (CRow.mk a b x v).ok P := ⟨hw, fun γ w => by
  simp only; rw [hx, hv]
  simp [convert, run_underlying ha, run_underlying hb, Conv.intToInt]⟩
end
end Go.Ev
