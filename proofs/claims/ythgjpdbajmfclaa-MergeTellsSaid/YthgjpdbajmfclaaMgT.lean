/-
  Appends to a row of the call's own; no condition.
-/
import Derived.Test.YthgjpdbajmfclaaMgB
import Derived.BigFrame
import Derived.ArgAppend
import Derived.StillTailTactics
namespace Go.Proofs.Ythgjpdbajmfclaa
open Go.RowKit Go.WideShapes Go.ChangeShapes
set_option linter.all false
theorem Ran.refl (v : Value) (w : World) : Ran v v w w := ⟨World.grownBy.refl w _, .inl rfl⟩
theorem Ran.trans {v v1 v2 : Value} {w w1 w2 : World} (h : Ran v v1 w w1) (k : Ran v1 v2 w1 w2) : Ran v v2 w w2 := by
  refine ⟨⟨k.grown.os.trans h.grown.os, k.grown.tape.trans h.grown.tape, k.grown.output.trans h.grown.output, Nat.le_trans h.grown.size k.grown.size, fun b hb hne => ?_⟩, ?_⟩
  · refine (k.grown.block b (Nat.lt_of_lt_of_le hb h.grown.size) (fun e => ?_)).trans (h.grown.block b hb hne)
    rcases h.at_ with a | a
    · rw [a] at e; exact hne e
    · have := a b e.symm; omega
  · rcases k.at_ with a | a
    · rcases h.at_ with b | b
      · exact .inl (a.trans b)
      · exact .inr fun g hg => b g (by rw [← a]; exact hg)
    · exact .inr fun g hg => Nat.le_trans h.grown.size (a g hg)
theorem Ran.alloc {v v1 : Value} {w w1 : World} {o : Obj} (h : Ran v v1 (w.alloc o) w1) : Ran v v1 w w1 :=
  ⟨⟨h.grown.os, h.grown.tape, h.grown.output, by have := h.grown.size; simp at this; omega, fun b hb hne => (h.grown.block b (by simp; omega) hne).trans (Below.heap_alloc w o b hb)⟩, h.at_.imp id fun k g hg => by have := k g hg; simp at this; omega⟩
theorem Ran.drew {v v1 : Value} {w w1 : World} (h : Ran v v1 w.drew w1) : Ran v v1 w w1 := ⟨⟨h.grown.os, h.grown.tape, h.grown.output, h.grown.size, h.grown.block⟩, h.at_⟩
section
variable {P : Program} {w : World} {size n : Nat} {xs : List Value}
theorem wpList_append_mid {ops : Array Oper} {rest : List Oper} {o : Oper} {a : Act} {Q : Exit → Act → World → Prop} (hg : o.guard = none) (s x : Operand) (t : TypeId)
    (ho : o.op = .call { callee := .builtin .append, args := #[s, x], argTypes := #[t, t] })
    (base : Nat) (e : TypeId) (i : TypeInfo) (z : Value) (size bytes : Nat) (ht : P.underlying t = some (.slice e)) (hi : P.info? e = some i) (hz : i.zero = some z)
    (hsize : i.size = size) (hby : i.bytes = bytes) (hzs : z.cells.size = size) (hsz : 0 < size) (v : Value) (n : Nat) (xs : List Value) (hs : a.eval s = v) (h : Mid w base e size v n xs)
    (ad : Addr) (m c : Nat) (news : List Value) (hx : a.eval x = .slice (some ad) m c) (hl : news.length = m * size) (hnews : ∀ j u, news[j]? = some u → w.cell? (ad.add j) = some u) (h1 : ∀ u ∈ news, u.oneCell' = true)
    (h63 : n + m ≤ maxLen) (hbytes : (n + m) * bytes ≤ 140737488355328) (hbase : base ≤ w.heap.size)
    (hK : ∀ v' w', Mid w' base e size v' (n + m) (xs ++ news) → Ran v v' w w' → wpList P ops Q rest (a.put o.dst v') w') : wpList P ops Q (o :: rest) a w :=
  wpList_plain hg fun K hK' => wp_append_mid s x t ho base e i z size bytes ht hi hz hsize hby hzs hsz v n xs hs h ad m c news hx hl hnews h1 h63 hbytes hbase (fun v' w' q1 q2 => hK' _ _ (hK v' w' q1 q2))
end
theorem Mid.reads {w : World} {N n c : Nat} {t : TypeId} {A : Option Addr} {xs : List Value} (h : Mid w N t 1 (.slice A n c) n xs) : Reads w w.heap.size 1 A n xs := by
  refine ⟨h.1, fun hn => ?_⟩
  rcases h.2 with ⟨h', h0⟩ | ⟨g, off, cap, cur, h', hb, hh, _⟩
  · omega
  · simp only [Value.slice.injEq, true_and] at h'
    obtain ⟨rfl, rfl⟩ := h'
    refine ⟨_, rfl, ?_, fun j u hu => ?_⟩
    · rcases Nat.lt_or_ge g w.heap.size with hlt | hge
      · exact hlt
      · rw [Array.getElem?_eq_none hge] at hh; cases hh
    · rw [Addr.add_lit]; exact h.cells j u hu
section
variable {w w' : World} {base size n : Nat} {t : TypeId} {v : Value} {xs : List Value} {P : Program}
theorem Mid.lit (hb : base ≤ w.heap.size) (u : Value) : Mid (w.alloc (.cells #[u] t)) base t 1 (.slice (some ⟨w.heap.size, 0, none⟩) 1 1) 1 [u] :=
  ⟨rfl, .inr ⟨_, 0, 1, #[u], rfl, hb, heap_alloc_new w _, Nat.le_refl _, by unfold maxLen; omega, by simp, rfl⟩⟩
theorem Mid.empty (hb : base ≤ w.heap.size) : Mid (w.alloc (.cells #[] t)) base t 1 (.slice (some ⟨w.heap.size, 0, none⟩) 0 0) 0 [] :=
  ⟨rfl, .inr ⟨_, 0, 0, #[], rfl, hb, heap_alloc_new w _, Nat.le_refl _, by unfold maxLen; omega, by simp, rfl⟩⟩
theorem Reads.cells {B m : Nat} {a : Addr} (h : Reads w B 1 (some a) m xs) : ∀ j u, xs[j]? = some u → w.cell? (a.add j) = some u := fun j u hu => by
  have hj : j < m := by
    have := (List.getElem?_eq_some_iff.1 hu).1
    have := h.1; omega
  obtain ⟨ad, e, _, hc⟩ := h.2 (by omega)
  injection e with e
  subst e
  exact hc j u hu
theorem below_fresh {n c : Nat} {v' : Value} {o : Obj} (h : Ran (.slice (some ⟨w.heap.size, 0, none⟩) n c) v' (w.alloc o) w') : Below w.heap.size w w' :=
  ((Below.refl _ _).alloc (Nat.le_refl _) o).grown h.grown (by simp) fun g hg => by simp [Value.ownBlock] at hg; omega
theorem run_append_keep (ty e : TypeId) (t : TypeId) (i : TypeInfo) (z : Value) (bytes : Nat) (ht : P.underlying t = some (.slice e)) (hi : P.info? e = some i) (hz : i.zero = some z)
    (hsize : i.size = size) (hby : i.bytes = bytes) (hzs : z.cells.size = size) (hsz : 0 < size) (h : Mid w base e size v n xs)
    (ad : Addr) (m c : Nat) (news : List Value) (hl : news.length = m * size) (hnews : ∀ j u, news[j]? = some u → w.cell? (ad.add j) = some u) (h1 : ∀ u ∈ news, u.oneCell' = true)
    (h63 : n + m ≤ maxLen) (hbytes : (n + m) * bytes ≤ 140737488355328) (hbase : base ≤ w.heap.size) :
    ∃ v' w', (Builtin.append_ #[t, t] ty #[v, .slice (some ad) m c]).run P w = .ok v' w' ∧ Mid w' base e size v' (n + m) (xs ++ news) ∧ Ran v v' w w' ∧ Mid w' base e size v n xs := by
  rcases h.2 with ⟨rfl, rfl⟩ | ⟨g, off, cap, cur, rfl, hb, hh, hn, hc, hs, hx⟩
  · have hx0 : xs = [] := List.eq_nil_of_length_eq_zero (by simpa using h.1)
    subst hx0
    obtain ⟨v', w', a, b, d⟩ := run_append_mid (P := P) ty e t i z bytes ht hi hz hsize hby hzs hsz h ad m c news hl hnews h1 h63 hbytes hbase
    exact ⟨v', w', a, b, d, Mid.nil _ _ _ _⟩
  · by_cases hr : n + m ≤ cap
    · have hml : (n + m) * size ≤ cap * size := Nat.mul_le_mul_right _ hr
      have hnl : (n + m) * size = n * size + m * size := Nat.add_mul _ _ _
      have hb1 : off + n * size + news.length ≤ cur.size := by rw [hl]; omega
      subst hsize
      have hcell : ∀ j, j < news.length → (w.cell? ⟨g, off + n * i.size + j, none⟩).isSome = true := fun j hj => by
        simp only [World.cell?, hh]
        rw [Array.getElem?_eq_getElem (show off + n * i.size + j < cur.size by omega)]; rfl
      have hrun := run_append_room_cells (P := P) w t ty e i ht hi g off n cap ad m c news hl hnews h1 hr hcell (fun j hj => by simp [World.frozen?, hh])
      obtain ⟨c', a1, a2, a3, a4⟩ := heap_setCells_same news (off + n * i.size) w cur e hh hb1
      have q1 : (c'.toList.drop off).take (n * i.size) = xs := by
        rw [← hx, List.take_drop, List.take_drop, a3]
      refine ⟨_, _, hrun, ⟨by rw [List.length_append, h.1, hl, Nat.add_mul], .inr ⟨g, off, cap, c', rfl, hb, a1, hr, hc, by omega, ?_⟩⟩, ⟨⟨(World.keptBut_setCells g (may := fun _ => True) news _ w (fun _ _ => trivial)).1, tape_setCells _ _ _ _, (World.keptBut_setCells g (may := fun _ => True) news _ w (fun _ _ => trivial)).2.1, by rw [size_setCells_]; exact Nat.le_refl _, fun k hk hr' => World.heap_setCells_other w g _ news hk (fun e => hr' (by rw [e]; rfl))⟩, .inl rfl⟩, ⟨h.1, .inr ⟨g, off, cap, c', rfl, hb, a1, hn, hc, by omega, q1⟩⟩⟩
      rw [hnl, List.take_add, q1, List.drop_drop, ← hl, a4]
    · obtain ⟨v', w', hrun, r1, r2⟩ := run_append_arg_grows (P := P) w t ty e i z size bytes ht hi hz hsize hby hzs hsz ⟨g, off, none⟩ n cap xs h.1 (fun j u hj => by rw [Addr.add_lit]; exact h.cells j u hj) ad m c news hl hnews (by omega) h63 hbytes
      have hm := Mid.of_own r1
      refine ⟨v', w', hrun, ⟨hm.1, ?_⟩, ⟨⟨r2.os, r2.tape, r2.output, r2.size, fun k hk _ => r2.block k hk (by simp)⟩, .inr fun g hg => (hm.lt g hg).1⟩, h.same fun g hg => r2.block g (h.lt g hg).2 (by simp)⟩
      rcases hm.2 with h' | ⟨g, off, cap, cur, hv, hb, rest⟩
      · exact .inl h'
      · exact .inr ⟨g, off, cap, cur, hv, by omega, rest⟩
theorem wpList_append_keep {ops : Array Oper} {rest : List Oper} {o : Oper} {a : Act} {Q : Exit → Act → World → Prop} (hw : Region.wanted o (yielded ops a.tmps) = true) (s x : Operand) (t : TypeId)
    (ho : o.op = .call { callee := .builtin .append, args := #[s, x], argTypes := #[t, t] })
    (base : Nat) (e : TypeId) (i : TypeInfo) (z : Value) (size bytes : Nat) (ht : P.underlying t = some (.slice e)) (hi : P.info? e = some i) (hz : i.zero = some z)
    (hsize : i.size = size) (hby : i.bytes = bytes) (hzs : z.cells.size = size) (hsz : 0 < size) (v : Value) (n : Nat) (xs : List Value) (hs : a.eval s = v) (h : Mid w base e size v n xs)
    (ad : Addr) (m c : Nat) (news : List Value) (hx : a.eval x = .slice (some ad) m c) (hl : news.length = m * size) (hnews : ∀ j u, news[j]? = some u → w.cell? (ad.add j) = some u) (h1 : ∀ u ∈ news, u.oneCell' = true)
    (h63 : n + m ≤ maxLen) (hbytes : (n + m) * bytes ≤ 140737488355328) (hbase : base ≤ w.heap.size)
    (hK : ∀ v' w', Mid w' base e size v' (n + m) (xs ++ news) → Ran v v' w w' → Mid w' base e size v n xs → wpList P ops Q rest (a.put o.dst v') w') : wpList P ops Q (o :: rest) a w := by
  refine BigFrame.wpList_want hw fun K hK' => ?_
  obtain ⟨v', w', hrun, h2, h3, h4⟩ := run_append_keep (P := P) o.type e t i z bytes ht hi hz hsize hby hzs hsz h ad m c news hl hnews h1 h63 hbytes hbase
  unfold Oper.wp execOp
  simp only [ho, resolve, invoke, builtin, Sem.run_bind, Sem.run_pure, Result.andThen_ok, List.map_toArray, List.map_cons, List.map_nil, hs, hx, hrun]
  exact hK' _ _ (hK v' w' h2 h3 h4)
end
section
variable {w : World} {base size n : Nat} {v : Value} {xs : List Value} {P : Program}
theorem run_append_empty (t ty e : TypeId) (i : TypeInfo) (ht : P.underlying t = some (.slice e)) (hi : P.info? e = some i) (h : Mid w base e size v n xs) (A : Option Addr) (c : Nat) :
    (Builtin.append_ #[t, t] ty #[v, .slice A 0 c]).run P w = .ok v w := by
  rcases h.2 with ⟨rfl, rfl⟩ | ⟨g, off, cap, cur, rfl, _, _, hnc, _⟩
  · cases A <;> simp [Builtin.append_, run_underlying ht, sizeOf, typeInfo, hi, Builtin.lenOf, Builtin.firstCells, storeCells, loadCells, loadCellsFrom]
  · cases A <;> simp [Builtin.append_, run_underlying ht, sizeOf, typeInfo, hi, Builtin.lenOf, Builtin.firstCells, hnc, storeCells, loadCells, loadCellsFrom]
theorem run_append_src (ty e : TypeId) (t : TypeId) (i : TypeInfo) (z : Value) (bytes : Nat) (ht : P.underlying t = some (.slice e)) (hi : P.info? e = some i) (hz : i.zero = some z)
    (hsize : i.size = size) (hby : i.bytes = bytes) (hzs : z.cells.size = size) (hsz : 0 < size) (h : Mid w base e size v n xs)
    (B : Nat) (A : Option Addr) (m c : Nat) (news : List Value) (hr : Reads w B size A m news) (h1 : ∀ u ∈ news, u.oneCell' = true)
    (h63 : n + m ≤ maxLen) (hbytes : (n + m) * bytes ≤ 140737488355328) (hbase : base ≤ w.heap.size) :
    ∃ v' w', (Builtin.append_ #[t, t] ty #[v, .slice A m c]).run P w = .ok v' w' ∧ Mid w' base e size v' (n + m) (xs ++ news) ∧ Ran v v' w w' := by
  rcases Nat.eq_zero_or_pos m with rfl | hm
  · have h0 : news = [] := List.eq_nil_of_length_eq_zero (by simpa using hr.1)
    subst h0
    exact ⟨v, w, run_append_empty t ty e i ht hi h A c, by simpa using h, ⟨World.grownBy.refl w _, .inl rfl⟩⟩
  · obtain ⟨ad, rfl, _, hc⟩ := hr.2 hm
    exact run_append_mid ty e t i z bytes ht hi hz hsize hby hzs hsz h ad m c news hr.1 hc h1 h63 hbytes hbase
theorem step_append_src {ops : Array Oper} {o : Oper} {a : Act} {K : Act → World → Prop} {Q : Exit → Act → World → Prop} {E : Prop} (hgd : o.guard = none) (s x : Operand) (t : TypeId)
    (ho : o.op = .call { callee := .builtin .append, args := #[s, x], argTypes := #[t, t] })
    (base : Nat) (e : TypeId) (i : TypeInfo) (z : Value) (size bytes : Nat) (ht : P.underlying t = some (.slice e)) (hi : P.info? e = some i) (hz : i.zero = some z)
    (hsize : i.size = size) (hby : i.bytes = bytes) (hzs : z.cells.size = size) (hsz : 0 < size) (v : Value) (n : Nat) (xs : List Value) (hs : a.eval s = v) (h : Mid w base e size v n xs)
    (B : Nat) (A : Option Addr) (m c : Nat) (news : List Value) (hx : a.eval x = .slice A m c) (hr : Reads w B size A m news) (h1 : ∀ u ∈ news, u.oneCell' = true)
    (h63 : n + m ≤ maxLen) (hbytes : (n + m) * bytes ≤ 140737488355328) (hbase : base ≤ w.heap.size)
    (hK : ∀ v' w', Mid w' base e size v' (n + m) (xs ++ news) → Ran v v' w w' → K (a.put o.dst v') w') :
    if Region.wanted o (yielded ops a.tmps) = true then Oper.wp P o a w K Q else E := by
  have hw : Region.wanted o (yielded ops a.tmps) = true := by simp [Region.wanted, hgd]
  rw [if_pos hw]
  obtain ⟨v', w', hrun, h2, h3⟩ := run_append_src (P := P) o.type e t i z bytes ht hi hz hsize hby hzs hsz h B A m c news hr h1 h63 hbytes hbase
  unfold Oper.wp execOp
  simp only [ho, resolve, invoke, builtin, Sem.run_bind, Sem.run_pure, Result.andThen_ok, List.map_toArray, List.map_cons, List.map_nil, hs, hx, hrun]
  exact hK v' w' h2 h3
end
theorem Reads.block {w : World} {xs : List Value} (t : TypeId) (cs : Array Value) (h : cs.toList = xs) : Reads (w.alloc (.cells cs t)) (w.alloc (.cells cs t)).heap.size 1 (some ⟨w.heap.size, 0, none⟩) xs.length xs := by
  subst h
  exact ⟨by simp, fun _ => ⟨_, rfl, by simp, World.news_of_block (cs := cs) (t := t) (fr := (0, 0)) (heap_alloc_new w _)⟩⟩
theorem Reads.onA {w : World} {A : Option Addr} {n : Nat} {xs : List Value} (h : Reads w w.heap.size 1 A n xs) (o : Obj) : Reads (w.alloc o) (w.alloc o).heap.size 1 A n xs := h.on ((Below.refl _ _).alloc (Nat.le_refl _) o)
theorem below_alloc (w : World) (o : Obj) : Below w.heap.size w (w.alloc o) := (Below.refl _ _).alloc (Nat.le_refl _) o
theorem wpList_append_src {P : Program} {w : World} {ops : Array Oper} {rest : List Oper} {o : Oper} {a : Act} {Q : Exit → Act → World → Prop} (hw : Region.wanted o (yielded ops a.tmps) = true) (s x : Operand) (t : TypeId)
    (ho : o.op = .call { callee := .builtin .append, args := #[s, x], argTypes := #[t, t] })
    (base : Nat) (e : TypeId) (i : TypeInfo) (z : Value) (size bytes : Nat) (ht : P.underlying t = some (.slice e)) (hi : P.info? e = some i) (hz : i.zero = some z)
    (hsize : i.size = size) (hby : i.bytes = bytes) (hzs : z.cells.size = size) (hsz : 0 < size) (v : Value) (n : Nat) (xs : List Value) (hs : a.eval s = v) (h : Mid w base e size v n xs)
    (B : Nat) (A : Option Addr) (m c : Nat) (news : List Value) (hx : a.eval x = .slice A m c) (hr : Reads w B size A m news) (h1 : ∀ u ∈ news, u.oneCell' = true)
    (h63 : n + m ≤ maxLen) (hbytes : (n + m) * bytes ≤ 140737488355328) (hbase : base ≤ w.heap.size)
    (hK : ∀ v' w', Mid w' base e size v' (n + m) (xs ++ news) → Ran v v' w w' → wpList P ops Q rest (a.put o.dst v') w') : wpList P ops Q (o :: rest) a w := by
  refine BigFrame.wpList_want hw fun K hK' => ?_
  obtain ⟨v', w', hrun, h2, h3⟩ := run_append_src (P := P) o.type e t i z bytes ht hi hz hsize hby hzs hsz h B A m c news hr h1 h63 hbytes hbase
  unfold Oper.wp execOp
  simp only [ho, resolve, invoke, builtin, Sem.run_bind, Sem.run_pure, Result.andThen_ok, List.map_toArray, List.map_cons, List.map_nil, hs, hx, hrun]
  exact hK' _ _ (hK v' w' h2 h3)
theorem Mid.alloc_ {w : World} {N n : Nat} {t : TypeId} {v : Value} {xs : List Value} (h : Mid w N t 1 v n xs) (o : Obj) : Mid (w.alloc o) N t 1 v n xs := h.same fun g hg => Below.heap_alloc _ _ g (h.lt g hg).2
theorem news_one {w : World} {g : Nat} {u : Value} (h : w.cell? ⟨g, 0, none⟩ = some u) : ∀ j v, [u][j]? = some v → w.cell? ((⟨g, 0, none⟩ : Addr).add j) = some v := by
  intro j v hj
  cases j with
  | zero => simp at hj; subst hj; simpa [Addr.add] using h
  | succ j => simp at hj
theorem ran_cell {w w' : World} {N n g o : Nat} {t : TypeId} {v v' u : Value} {xs : List Value} (h : Ran v v' w w') (hm : Mid w N t 1 v n xs) (hc : w.cell? ⟨g, o, none⟩ = some u) (hne : v.ownBlock ≠ some g) : w'.cell? ⟨g, o, none⟩ = some u := by
  have hg : g < w.heap.size := World.block_lt_of_cell? _ _ hc
  exact (World.cell?_of_block (h.grown.block g hg (fun e => hne e.symm))).trans hc
theorem Mid.apart {w : World} {N N' n n' : Nat} {t t' : TypeId} {v v' : Value} {xs ys : List Value} (h : Mid w N t 1 v n xs) (h' : Mid w N' t' 1 v' n' ys) (hne : t ≠ t') : ∀ g, v.ownBlock = some g → v'.ownBlock ≠ some g := by
  intro g hg hg'
  rcases h.2 with ⟨rfl, _⟩ | ⟨g1, o1, c1, cur1, rfl, _, hh1, _⟩
  · cases hg
  · rcases h'.2 with ⟨rfl, _⟩ | ⟨g2, o2, c2, cur2, rfl, _, hh2, _⟩
    · cases hg'
    · have e1 : g1 = g := by simpa [Value.ownBlock] using hg
      have e2 : g2 = g := by simpa [Value.ownBlock] using hg'
      subst e1; subst e2
      rw [hh1] at hh2
      injection hh2 with hh2
      injection hh2 with _ ht
      exact hne ht
theorem Mid.on_ran {w w' : World} {N N' n n' : Nat} {t t' : TypeId} {v u u' : Value} {xs ys : List Value} (h : Mid w N t 1 v n xs) (h' : Mid w N' t' 1 u n' ys) (hne : t ≠ t') (hr : Ran u u' w w') : Mid w' N t 1 v n xs :=
  h.same fun g hg => hr.grown.block g (h.lt g hg).2 (fun e => h.apart h' hne g hg e.symm)
theorem Mid.nocap {w : World} {N n c : Nat} {t : TypeId} {A : Option Addr} {xs : List Value} (h : Mid w N t 1 (.slice A n c) n xs) : A = none → c = 0 := by
  rintro rfl
  rcases h.2 with ⟨h', h0⟩ | ⟨g, off, cap, cur, h', _⟩
  · simp only [Value.slice.injEq] at h'; exact h'.2.2
  · simp at h'
theorem Mid.room {w : World} {N n c : Nat} {t : TypeId} {A : Option Addr} {xs : List Value} (h : Mid w N t 1 (.slice A n c) n xs) : n ≤ c ∧ c ≤ maxLen := by
  rcases h.2 with ⟨h', h0⟩ | ⟨g, off, cap, cur, h', _, _, h1, h2, _⟩
  · simp only [Value.slice.injEq] at h'
    obtain ⟨_, _, rfl⟩ := h'
    exact ⟨by omega, by unfold maxLen; omega⟩
  · simp only [Value.slice.injEq, true_and] at h'
    obtain ⟨rfl, rfl⟩ := h'
    exact ⟨h1, h2⟩
end Go.Proofs.Ythgjpdbajmfclaa
