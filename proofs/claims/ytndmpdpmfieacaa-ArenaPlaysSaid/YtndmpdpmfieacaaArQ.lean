/-
  ArenaOnce: the law's rows beside the arena, and the walk; conditions: lengths.
  ArenaOnce: a row without its k-th place, laid anew (regions 31, 32); conditions: lengths.
  ArenaOnce: the swap's region (36); conditions: lengths.
  The asks of the arena's laws, opened; conditions: lengths.
-/
import Derived.Test.YtndmpdpmfieacaaArU
import Derived.Test.YtndmpdpmfieacaaAnyK
import Derived.Laws.Bits64
import Derived.Test.YtndmpdpmfieacaaFr
namespace Go.Proofs.Ytndmpdpmfieacaa
open Go.RowKit Go.WideShapes Go.ChangeShapes
set_option linter.all false
section
variable {w W W' : World} {N B S k n c G d m : Nat} {lv : Nat → Bool} {gs gt : Nat → Nat} {VR VG : Value} {sl : List Sl} {P I : Nat → Nat} {V : Nat → Value} {xs : Nat → List Int} {F F' : Nat → Prop}
theorem LA.lv' {lw : Nat → Bool} (h : LA N B S k n c G d lv gs sl P I V xs W) (he : ∀ i, i < n → lv i = lw i) : LA N B S k n c G d lw gs sl P I V xs W :=
  ⟨h.ar, h.ok, h.len, fun i hi => by rw [← he i hi]; exact h.all i hi, h.cnt⟩
theorem LA.footN (h : LA N B S k n c G d lv gs sl P I V xs W) : (∀ b, Foot B S 5 sl P I V b → N ≤ b) ∧ ∀ b, Foot B S 5 sl P I V b → b < W.heap.size :=
  ⟨fun b hb => Nat.le_trans h.ar.NS (h.ar.foot hb).1, fun b hb => (h.ar.foot hb).2⟩
theorem LA.nils (h : LA N B S k n c G d lv gs sl P I V xs W) (e : Nat) (he : e ≠ c) : xs e = [] := by
  apply List.eq_nil_iff_forall_not_mem.2
  intro x hx
  obtain ⟨i, hi, _, hc⟩ := h.ok.only e x hx
  have := (h.all i (by rw [← h.len]; exact hi)).1
  omega
theorem LA.freeN (h : LA N B S k n c G d lv gs sl P I V xs W) (hc : c < 5) : Go.Proofs.Ytndmpdpmfieacaa.freeN xs 5 = d := by
  have h0 : ∀ e, e ≠ c → (xs e).length = 0 := fun e he => by rw [h.nils e he]; rfl
  have hcn := h.cnt
  have : c = 0 ∨ c = 1 ∨ c = 2 ∨ c = 3 ∨ c = 4 := by omega
  simp only [Go.Proofs.Ytndmpdpmfieacaa.freeN]
  rcases this with rfl | rfl | rfl | rfl | rfl
  · rw [h0 1 (by omega), h0 2 (by omega), h0 3 (by omega), h0 4 (by omega)]; omega
  · rw [h0 0 (by omega), h0 2 (by omega), h0 3 (by omega), h0 4 (by omega)]; omega
  · rw [h0 0 (by omega), h0 1 (by omega), h0 3 (by omega), h0 4 (by omega)]; omega
  · rw [h0 0 (by omega), h0 1 (by omega), h0 2 (by omega), h0 4 (by omega)]; omega
  · rw [h0 0 (by omega), h0 1 (by omega), h0 2 (by omega), h0 3 (by omega)]; omega
theorem LA.live (h : LA N B S k n c G d lv gs sl P I V xs W) (hc : c < 5) (hn : n ≤ 1024) (hd : d ≤ 1024) : Calls Try.prog 14 #[.pointer (some ⟨B, 0, none⟩)] W fun e w' => e = .returned (.int .i64 ((n : Int) - (d : Nat))) ∧ w' = W := by
  have := live_any h.ar (by have := h.len; omega) (by rw [h.freeN hc]; omega)
  rw [h.len, h.freeN hc] at this
  exact this
/-- One class alone. -/
theorem Fr.la {n c : Nat} (hc : c < 5) (hn : n ≤ 1024) (h : Fr (fun i => if i = c then n else 0) 5 0 sl xs) (ha : Ar N B S k 5 sl P I V xs W) : LA N B S k n c 1 n (fun _ => false) (fun _ => 1) sl P I V xs W := by
  have hs : ∀ q, q ≤ c → sumN (fun i => if i = c then n else 0) q = 0 := by
    intro q
    induction q with
    | zero => intro _; rfl
    | succ q ih => intro hq; show sumN _ q + _ = 0; rw [ih (by omega)]; simp; intro e; omega
  have hs2 : ∀ q, c < q → sumN (fun i => if i = c then n else 0) q = n := by
    intro q
    induction q with
    | zero => intro h; omega
    | succ q ih =>
      intro hq
      show sumN _ q + _ = n
      by_cases e : q = c
      · subst e; rw [hs q (Nat.le_refl _)]; simp
      · rw [ih (by omega)]; simp [e]
  have hl : sl.length = n := by rw [h.len, hs2 5 hc]; rfl
  refine ⟨ha, h.ok, hl, fun i hi => ?_, by rw [h.cnt c, if_pos hc, if_pos rfl]⟩
  have h1 := h.all i (by omega)
  have h2 := h.place i (by omega)
  refine ⟨?_, h1.1, h1.2⟩
  by_cases e : (sl.getD i dS).cls < c
  · rw [hs _ (by omega : (sl.getD i dS).cls + 1 ≤ c)] at h2; omega
  · by_cases e2 : c < (sl.getD i dS).cls
    · rw [hs2 _ e2] at h2; omega
    · omega
end
section
variable {w : World} {base size n : Nat} {v : Value} {xs : List Value} {P : Program}
theorem run_append_empty (t ty e : TypeId) (i : TypeInfo) (ht : P.underlying t = some (.slice e)) (hi : P.info? e = some i) (h : Mid w base e size v n xs) (A : Option Addr) (c : Nat) :
    (Builtin.append_ #[t, t] ty #[v, .slice A 0 c]).run P w = .ok v w := by
  rcases h.2 with ⟨rfl, rfl⟩ | ⟨g, off, cap, cur, rfl, _, _, hnc, _⟩
  · cases A <;> simp [Builtin.append_, run_underlying ht, sizeOf, typeInfo, hi, Builtin.lenOf, Builtin.firstCells, storeCells, loadCells, loadCellsFrom]
  · cases A <;> simp [Builtin.append_, run_underlying ht, sizeOf, typeInfo, hi, Builtin.lenOf, Builtin.firstCells, hnc, storeCells, loadCells, loadCellsFrom]
theorem run_append_src (ty e : TypeId) (t : TypeId) (i : TypeInfo) (z : Value) (bytes : Nat) (ht : P.underlying t = some (.slice e)) (hi : P.info? e = some i) (hz : i.zero = some z)
    (hsize : i.size = size) (hby : i.bytes = bytes) (hzs : z.cells.size = size) (hsz : 0 < size) (h : Mid w base e size v n xs)
    (B : Nat) (A : Option Addr) (m c : Nat) (news : List Value) (hr : Reads w B size A m news) (h1 : ∀ u ∈ news, u.oneCell' = true)
    (h63 : n + m ≤ maxLen) (hbytes : (n + m) * bytes ≤ 140737488355328) (hbase : base ≤ w.heap.size) :
    ∃ v' w', (Builtin.append_ #[t, t] ty #[v, .slice A m c]).run P w = .ok v' w' ∧ Mid w' base e size v' (n + m) (xs ++ news) ∧ Ran v v' w w' := by
  rcases Nat.eq_zero_or_pos m with rfl | hm
  · have h0 : news = [] := List.eq_nil_of_length_eq_zero (by simpa using hr.1)
    subst h0
    exact ⟨v, w, run_append_empty t ty e i ht hi h A c, by simpa using h, ⟨World.grownBy.refl w _, .inl rfl⟩⟩
  · obtain ⟨ad, rfl, _, hc⟩ := hr.2 hm
    exact run_append_mid ty e t i z bytes ht hi hz hsize hby hzs hsz h ad m c news hr.1 hc h1 h63 hbytes hbase
theorem step_append_src {ops : Array Oper} {o : Oper} {a : Act} {K : Act → World → Prop} {Q : Exit → Act → World → Prop} {E : Prop} (hgd : o.guard = none) (s x : Operand) (t : TypeId)
    (ho : o.op = .call { callee := .builtin .append, args := #[s, x], argTypes := #[t, t] })
    (base : Nat) (e : TypeId) (i : TypeInfo) (z : Value) (size bytes : Nat) (ht : P.underlying t = some (.slice e)) (hi : P.info? e = some i) (hz : i.zero = some z)
    (hsize : i.size = size) (hby : i.bytes = bytes) (hzs : z.cells.size = size) (hsz : 0 < size) (v : Value) (n : Nat) (xs : List Value) (hs : a.eval s = v) (h : Mid w base e size v n xs)
    (B : Nat) (A : Option Addr) (m c : Nat) (news : List Value) (hx : a.eval x = .slice A m c) (hr : Reads w B size A m news) (h1 : ∀ u ∈ news, u.oneCell' = true)
    (h63 : n + m ≤ maxLen) (hbytes : (n + m) * bytes ≤ 140737488355328) (hbase : base ≤ w.heap.size)
    (hK : ∀ v' w', Mid w' base e size v' (n + m) (xs ++ news) → Ran v v' w w' → K (a.put o.dst v') w') :
    if Region.wanted o (yielded ops a.tmps) = true then Oper.wp P o a w K Q else E := by
  have hw : Region.wanted o (yielded ops a.tmps) = true := by simp [Region.wanted, hgd]
  rw [if_pos hw]
  obtain ⟨v', w', hrun, h2, h3⟩ := run_append_src (P := P) o.type e t i z bytes ht hi hz hsize hby hzs hsz h B A m c news hr h1 h63 hbytes hbase
  unfold Oper.wp execOp
  simp only [ho, resolve, invoke, builtin, Sem.run_bind, Sem.run_pure, Result.andThen_ok, List.map_toArray, List.map_cons, List.map_nil, hs, hx, hrun]
  exact hK v' w' h2 h3
end
theorem Reads.lit (w : World) (t : TypeId) (cs : Array Value) : Reads (w.alloc (.cells cs t)) (w.alloc (.cells cs t)).heap.size 1 (some ⟨w.heap.size, 0, none⟩) cs.size cs.toList := by
  refine ⟨by simp, fun _ => ⟨_, rfl, by simp, fun j u hu => ?_⟩⟩
  have e : (⟨w.heap.size, 0, none⟩ : Addr).add j = ⟨w.heap.size, 0 + j, none⟩ := by unfold Addr.add; split <;> simp_all
  rw [e, Nat.zero_add, cell_of (heap_alloc_new w _)]
  simpa using hu

set_option maxRecDepth 100000 in
theorem run_b45 (w : World) : Sem.run Try.prog (Instr.buildSlice 45 0 #[]) w = .ok (.slice (some ⟨w.heap.size, 0, none⟩) 0 0) (w.alloc (.cells #[] 3)) := by
  first
    | (simp [Instr.buildSlice, go_sem, Try.underlying45]; done)
    | (simp [Instr.buildSlice, go_sem, Try.underlying45]; rfl)
    | rfl
set_option maxRecDepth 100000 in
theorem run_b30 (w : World) : Sem.run Try.prog (Instr.buildSlice 30 0 #[]) w = .ok (.slice (some ⟨w.heap.size, 0, none⟩) 0 0) (w.alloc (.cells #[] 35)) := by
  first
    | (simp [Instr.buildSlice, go_sem, Try.underlying30]; done)
    | (simp [Instr.buildSlice, go_sem, Try.underlying30]; rfl)
    | rfl
theorem step_build0 {ops : Array Oper} {o : Oper} {a : Act} {w : World} {K : Act → World → Prop} {Q : Exit → Act → World → Prop} {E : Prop} (t e : TypeId) (hrun : Sem.run Try.prog (Instr.buildSlice t 0 #[]) w = .ok (.slice (some ⟨w.heap.size, 0, none⟩) 0 0) (w.alloc (.cells #[] e))) (hgd : o.guard = none) (ho : o.op = .buildSlice t 0 #[])
    (hK : K (a.put o.dst (.slice (some ⟨w.heap.size, 0, none⟩) 0 0)) (w.alloc (.cells #[] e))) : if Region.wanted o (yielded ops a.tmps) = true then Oper.wp Try.prog o a w K Q else E := by
  have hw : Region.wanted o (yielded ops a.tmps) = true := by simp [Region.wanted, hgd]
  rw [if_pos hw]
  unfold Oper.wp execOp
  simp only [ho, Array.map_empty, List.map_toArray, List.map_nil, Sem.run_bind, Sem.run_pure, Result.andThen_ok, hrun]
  exact hK
def SX (_ : World) : Prop := True
theorem Mid.apart' {w : World} {N N' n n' : Nat} {t t' : TypeId} {v v' : Value} {xs ys : List Value} (h : Mid w N t 1 v n xs) (h' : Mid w N' t' 1 v' n' ys) (hne : t ≠ t') : ∀ g, v.ownBlock = some g → v'.ownBlock ≠ some g := by
  intro g hg hg'
  rcases h.2 with ⟨rfl, _⟩ | ⟨g1, o1, c1, cur1, rfl, _, hh1, _⟩
  · cases hg
  · rcases h'.2 with ⟨rfl, _⟩ | ⟨g2, o2, c2, cur2, rfl, _, hh2, _⟩
    · cases hg'
    · have e1 : g1 = g := by simpa [Value.ownBlock] using hg
      have e2 : g2 = g := by simpa [Value.ownBlock] using hg'
      subst e1; subst e2
      rw [hh1] at hh2
      injection hh2 with hh2
      injection hh2 with _ ht
      exact hne ht
/-- A row of the law's own of any kind; F's blocks keep out of it. -/
structure Rk (t : TypeId) (κ : IntKind) (F : Nat → Prop) (W : World) (N : Nat) (v : Value) (n : Nat) (xs : List Int) : Prop where
  mid : Mid W N t 1 v n (ks κ xs)
  out : ∀ g, v.ownBlock = some g → ¬ F g
section
variable {t : TypeId} {κ : IntKind} {F F' : Nat → Prop} {W W' : World} {N n : Nat} {v v' : Value} {xs : List Int}
theorem Rk.nil (t : TypeId) (κ : IntKind) (F : Nat → Prop) (W : World) (N : Nat) : Rk t κ F W N (.slice none 0 0) 0 [] := ⟨Mid.nil _ _ _ _, fun g hg => by cases hg⟩
theorem Rk.mv (h : Rk t κ F W N v n xs) (hm : Mv F F' W W') : Rk t κ F' W' N v n xs :=
  ⟨h.mid.same fun g hg => hm.block g (h.mid.lt g hg).2 (h.out g hg), fun g hg hf => by
    rcases hm.foot g hf with h1 | h1
    · exact h.out g hg h1
    · have := (h.mid.lt g hg).2; omega⟩
theorem Rk.on (h : Rk t κ F W N v n xs) (hb : Below W.heap.size W W') : Rk t κ F W' N v n xs := ⟨h.mid.onb hb, h.out⟩
theorem Rk.app {x : Int} (h : Rk t κ F W N v n xs) (hF : ∀ b, F b → b < W.heap.size) (hm : Mid W' N t 1 v' (n + 1) (ks κ xs ++ [.int κ x])) (hr : Ran v v' W W') : Rk t κ F W' N v' (n + 1) (xs ++ [x]) := by
  refine ⟨by rw [ks_append]; exact hm, fun g hg hf => ?_⟩
  rcases hr.at_ with e | e
  · exact h.out g (e ▸ hg) hf
  · have := e g hg; have := hF g hf; omega
theorem Rk.other {u u' : Value} (h : Rk t κ F W N v n xs) (hne : ∀ g, v.ownBlock = some g → u.ownBlock ≠ some g) (hr : Ran u u' W W') : Rk t κ F W' N v n xs := ⟨h.mid.on_apart hne hr, h.out⟩
theorem Rk.get {A : Option Addr} {cc kk : Nat} (h : Rk t κ F W N (.slice A n cc) n xs) (hk : kk < n) : ∃ ad, A = some ad ∧ W.cell? (ad.add kk) = some (.int κ (xs.getD kk 0)) := h.mid.readsv.kat hk
theorem Rk.len (h : Rk t κ F W N v n xs) : xs.length = n := by have := h.mid.1; rw [ks_len] at this; omega
theorem Rk.set {A : Option Addr} {cc kk : Nat} (h : Rk t κ F W N (.slice A n cc) n xs) (hk : kk < n) (x : Int) : ∃ ad v, A = some ad ∧ W.cell? (ad.add kk) = some v ∧ W.frozen? (ad.add kk) = false ∧ Rk t κ F (W.setCell (ad.add kk) (.int κ x)) N (.slice A n cc) n (xs.set kk x) ∧ N ≤ ad.block ∧ (Value.slice A n cc).ownBlock = some ad.block := by
  obtain ⟨ad, v, e, hc, hf, hm, hN, _, _, ho⟩ := h.mid.put hk (.int κ x)
  refine ⟨ad, v, e, hc, hf, ⟨?_, h.out⟩, hN, ho⟩
  unfold ks at hm ⊢
  rw [List.map_set]
  exact hm
end
/-- The good refs, the gone ones, the values. -/
structure OR (w : World) (F : Nat → Prop) (N m q : Nat) (rs gn vs : List Int) (VR VG VV : Value) (W : World) : Prop where
  rr : Rk 3 .i64 F W N VR m rs
  rg : Rk 3 .i64 F W N VG q gn
  rv : Rk 35 .u64 F W N VV m vs
  ap : ∀ g, VR.ownBlock = some g → VG.ownBlock ≠ some g
  bel : Below w.heap.size w W
  ltF : ∀ b, F b → b < W.heap.size
  NW : w.heap.size ≤ N ∧ N ≤ W.heap.size
section
variable {w W W' : World} {F F' : Nat → Prop} {N m q : Nat} {rs gn vs : List Int} {VR VG VV : Value}
theorem OR.mv (h : OR w F N m q rs gn vs VR VG VV W) (hm : Mv F F' W W') (hF : ∀ b, F b → N ≤ b) (hl : ∀ b, F' b → b < W'.heap.size) : OR w F' N m q rs gn vs VR VG VV W' := by
  have hb := h.bel
  have hN := h.NW
  have hs := hm.size
  exact ⟨h.rr.mv hm, h.rg.mv hm, h.rv.mv hm, h.ap, ⟨hm.os.trans hb.os, hm.tape.trans hb.tape, hm.output.trans hb.output, Nat.le_trans hb.size hs, fun b hbn => (hm.block b (by omega) (fun hf => by have := hF b hf; omega)).trans (hb.block b hbn)⟩, hl, by omega⟩
theorem OR.on (h : OR w F N m q rs gn vs VR VG VV W) (hb : Below W.heap.size W W') : OR w F N m q rs gn vs VR VG VV W' :=
  ⟨h.rr.on hb, h.rg.on hb, h.rv.on hb, h.ap, h.bel.trans (hb.mono h.bel.size), fun b hf => Nat.lt_of_lt_of_le (h.ltF b hf) hb.size, by have := h.NW; have := hb.size; omega⟩
/-- One more that is gone. -/
theorem OR.gone {VG' : Value} {o : Obj} {x : Int} (h : OR w F N m q rs gn vs VR VG VV W) (hm : Mid W' N 3 1 VG' (q + 1) (ks .i64 gn ++ [.int .i64 x])) (hr : Ran VG VG' (W.alloc o) W') : OR w F N m (q + 1) rs (gn ++ [x]) vs VR VG' VV W' ∧ ∀ b, F b → W'.heap[b]? = W.heap[b]? := by
  have b1 := below_alloc W o
  have s1 : (W.alloc o).heap.size = W.heap.size + 1 := by simp
  have g1 := hr.grown.size
  have h1 := h.on b1
  have hb := h.bel
  have hap : ∀ g, VR.ownBlock = some g → VG.ownBlock ≠ some g := h.ap
  have hv : ∀ g, VV.ownBlock = some g → VG.ownBlock ≠ some g := fun g hg => h1.rv.mid.apart' h1.rg.mid (by decide) g hg
  refine ⟨⟨h1.rr.other hap hr, h1.rg.app h1.ltF hm hr, h1.rv.other hv hr, apart_ran hap (fun g hg => (h1.rr.mid.lt g hg).2) hr, h1.bel.grown hr.grown h1.bel.size (fun g hg => Nat.le_trans h.NW.1 (h1.rg.mid.lt g hg).1), fun b hf => Nat.lt_of_lt_of_le (h1.ltF b hf) g1, by have := h1.NW; omega⟩, fun b hf => ?_⟩
  exact (hr.grown.block b (h1.ltF b hf) (fun e => h.rg.out b e.symm hf)).trans (b1.block b (h.ltF b hf))
/-- The values in the world where the refs have grown. -/
theorem OR.mid2 {VR' : Value} {o1 : Obj} (o3 : Obj) {W2 : World} (h : OR w F N m q rs gn vs VR VG VV W) (rx : Ran VR VR' (W.alloc o1) W2) : Mid (W2.alloc o3) N 35 1 VV m (ks .u64 vs) ∧ N ≤ (W2.alloc o3).heap.size := by
  have h1 := h.on (below_alloc W o1)
  have := rx.grown.size
  have := h1.NW
  exact ⟨((h1.rv.other (fun g hg => h1.rv.mid.apart' h1.rr.mid (by decide) g hg) rx).mid).onb (below_alloc W2 o3), by simp; omega⟩
/-- One more that is good. -/
theorem OR.push {VR' VV' : Value} {o1 o3 : Obj} {W2 W4 : World} {x y : Int} (h : OR w F N m q rs gn vs VR VG VV W) (hx : Mid W2 N 3 1 VR' (m + 1) (ks .i64 rs ++ [.int .i64 x])) (rx : Ran VR VR' (W.alloc o1) W2)
    (hy : Mid W4 N 35 1 VV' (m + 1) (ks .u64 vs ++ [.int .u64 y])) (ry : Ran VV VV' (W2.alloc o3) W4) : OR w F N (m + 1) q (rs ++ [x]) gn (vs ++ [y]) VR' VG VV' W4 ∧ ∀ b, F b → W4.heap[b]? = W.heap[b]? := by
  have b1 := below_alloc W o1
  have b3 := below_alloc W2 o3
  have h1 := h.on b1
  have g1 := rx.grown.size
  have g3 := ry.grown.size
  have s3 : (W2.alloc o3).heap.size = W2.heap.size + 1 := by simp
  have hgr : ∀ g, VG.ownBlock = some g → VR.ownBlock ≠ some g := fun g hg hr => h.ap g hr hg
  have hvr : ∀ g, VV.ownBlock = some g → VR.ownBlock ≠ some g := fun g hg => h1.rv.mid.apart' h1.rr.mid (by decide) g hg
  have r2 : Rk 3 .i64 F W2 N VR' (m + 1) (rs ++ [x]) := h1.rr.app h1.ltF hx rx
  have q2 : Rk 3 .i64 F W2 N VG q gn := h1.rg.other hgr rx
  have v2 : Rk 35 .u64 F W2 N VV m vs := h1.rv.other hvr rx
  have ap2 : ∀ g, VR'.ownBlock = some g → VG.ownBlock ≠ some g := fun g hg hv => apart_ran hgr (fun g hg => (h1.rg.mid.lt g hg).2) rx g hv hg
  have lt2 : ∀ b, F b → b < W2.heap.size := fun b hf => Nat.lt_of_lt_of_le (h1.ltF b hf) g1
  have hb2 : Below w.heap.size w W2 := h1.bel.grown rx.grown h1.bel.size (fun g hg => Nat.le_trans h.NW.1 (h1.rr.mid.lt g hg).1)
  have hb3 := hb2.trans (b3.mono hb2.size)
  refine ⟨⟨(r2.on b3).other (fun g hg => (r2.on b3).mid.apart' (v2.on b3).mid (by decide) g hg) ry, (q2.on b3).other (fun g hg => (q2.on b3).mid.apart' (v2.on b3).mid (by decide) g hg) ry, (v2.on b3).app (fun b hf => by have := lt2 b hf; omega) hy ry, ap2, hb3.grown ry.grown hb3.size (fun g hg => Nat.le_trans h.NW.1 (v2.mid.lt g hg).1), fun b hf => by have := lt2 b hf; omega, by have := h1.NW; omega⟩, fun b hf => ?_⟩
  have e1 := b1.block b (h.ltF b hf)
  have e2 := rx.grown.block b (h1.ltF b hf) (fun e => h.rr.out b e.symm hf)
  have e3 := b3.block b (lt2 b hf)
  have e4 := ry.grown.block b (by have := lt2 b hf; omega) (fun e => h.rv.out b e.symm hf)
  exact e4.trans (e3.trans (e2.trans e1))
/-- New rows of the call's own. -/
theorem OR.newR {VR' : Value} {m' : Nat} {rs' : List Int} (h : OR w F N m q rs gn vs VR VG VV W) (hb : Below W.heap.size W W') (hm : Mid W' W.heap.size 3 1 VR' m' (ks .i64 rs')) :
    Rk 3 .i64 F W' N VR' m' rs' ∧ ∀ g, VR'.ownBlock = some g → VG.ownBlock ≠ some g :=
  ⟨⟨hm.lower h.NW.2, fun g hg hf => by have := (hm.lt g hg).1; have := h.ltF g hf; omega⟩, fun g hg hv => by have := (hm.lt g hg).1; have := (h.rg.mid.lt g hv).2; omega⟩
theorem OR.setV {A : Option Addr} {cc kk : Nat} (h : OR w F N m q rs gn vs VR VG (.slice A m cc) W) (hk : kk < m) (x : Int) : ∃ ad v, A = some ad ∧ W.cell? (ad.add kk) = some v ∧ W.frozen? (ad.add kk) = false ∧ OR w F N m q rs gn (vs.set kk x) VR VG (.slice A m cc) (W.setCell (ad.add kk) (.int .u64 x)) ∧ ∀ b, F b → (W.setCell (ad.add kk) (.int .u64 x)).heap[b]? = W.heap[b]? := by
  have hN := h.NW
  obtain ⟨ad, v, e, hc, hf, hr, hb, ho⟩ := h.rv.set hk x
  have hbk : (ad.add kk).block = ad.block := block_of_add ..
  refine ⟨ad, v, e, hc, hf, ⟨⟨h.rr.mid.far_set (fun g hg => by rw [hbk]; rintro rfl; exact h.rr.mid.apart' h.rv.mid (by decide) _ hg ho) _, h.rr.out⟩, ⟨h.rg.mid.far_set (fun g hg => by rw [hbk]; rintro rfl; exact h.rg.mid.apart' h.rv.mid (by decide) _ hg ho) _, h.rg.out⟩, hr, h.ap, h.bel.setCell (by rw [hbk]; omega) _, fun b hf => by simpa using h.ltF b hf, by simpa using hN⟩, fun b hf => heap_far _ _ _ (by rw [hbk]; rintro rfl; exact h.rv.out _ ho hf)⟩
end

/-- The good refs' slots, their values, what is gone. -/
structure GI (gs : Nat → Nat) (lv : Nat → Bool) (sl : List Sl) (ps : List Nat) (vs : List Int) (gn : List (Nat × Nat)) : Prop where
  nd : ps.Nodup
  lt : ∀ i, i ∈ ps → i < 4
  lv : ∀ i, i < 4 → (lv i = true ↔ i ∈ ps)
  vl : vs.length = ps.length
  vals : ∀ k, k < ps.length → (sl.getD (ps.getD k 0) dS).ws.getD 0 0 = vs.getD k 0
  gone : ∀ e, e ∈ gn → e.1 < 4 ∧ 1 ≤ e.2 ∧ e.2 < gs e.1
  bd : ∀ y, y ∈ vs → 0 ≤ y ∧ y < 18446744073709551616
def refs (ps : List Nat) (gs : Nat → Nat) (c : Nat) : List Int := ps.map fun (i : Nat) => refV (i : Nat) (gs i : Nat) (((c : Nat) : Int) == 0)
def gns (gn : List (Nat × Nat)) (c : Nat) : List Int := gn.map fun (e : Nat × Nat) => refV (e.1 : Nat) (e.2 : Nat) (((c : Nat) : Int) == 0)
def OS (w : World) (N B S c : Nat) (P I : Nat → Nat) (G m q : Nat) (VR VG VV : Value) (W : World) : Prop :=
  ∃ lv gs sl V xs ps vs gn, LA N B S 4 4 c G (4 - m) lv gs sl P I V xs W ∧ OR w (Foot B S 5 sl P I V) N m q (refs ps gs c) (gns gn c) vs VR VG VV W ∧ GI gs lv sl ps vs gn ∧ ps.length = m ∧ m ≤ 4
theorem getD_memN {l : List Nat} {k : Nat} (h : k < l.length) : l.getD k 0 ∈ l := by
  rw [List.getD_eq_getElem?_getD, List.getElem?_eq_getElem h]; exact List.getElem_mem h
section
variable {w W W' : World} {N B S c G m q : Nat} {P I : Nat → Nat} {VR VG VV : Value}
theorem LA.more {k n d : Nat} {lv : Nat → Bool} {gs : Nat → Nat} {sl : List Sl} {V : Nat → Value} {xs : Nat → List Int} (h : LA N B S k n c G d lv gs sl P I V xs W) : LA N B S k n c (G + 1) d lv gs sl P I V xs W := ⟨h.ar, h.ok.more, h.len, h.all, h.cnt⟩
/-- A swap that is done. -/
theorem LA.swapped {k n d : Nat} {lv : Nat → Bool} {gs : Nat → Nat} {sl : List Sl} {V : Nat → Value} {xs : Nat → List Int} (h : LA N B S k n c G d lv gs sl P I V xs W) (hn : n ≤ 1024) (hG : G ≤ 1000000) {i : Nat} (hi : i < n) (hl : lv i = true) {x : Int} (hx : (sl.getD i dS).ws.getD 0 0 = x) {A : Option Addr} {mm cc M : Nat} {l : List Int} (hr : Reads W M 1 A mm (wv l)) (hm : mm ≤ szN c) :
    Calls Try.prog 17 #[.pointer (some ⟨B, 0, none⟩), .int .i64 (refV (i : Nat) (gs i : Nat) (((c : Nat) : Int) == 0)), .int .u64 x, .slice A mm cc] W fun e w' => e = .returned (.tuple #[.bool true, .int .i64 0]) ∧ ∃ sl', LA N B S k n c G d lv gs sl' P I V xs w' ∧ Mv (Foot B S 5 sl P I V) (Foot B S 5 sl' P I V) W w' ∧ (∀ j, j ≠ i → sl'.getD j dS = sl.getD j dS) ∧ (sl'.getD i dS).ws = fillL (szN c) l := by
  have hlen := h.len
  have ha := h.all i hi
  have hg := h.ok.gen i (by omega)
  have hlv := live_ref (sl := sl) (i := i) (by omega) (by omega) (by rw [ha.2.2]; exact hl) (by omega)
  rw [ha.1, ha.2.1] at hlv
  refine (swap_ok h.ar (by omega) hlv hr (by rw [ha.1]; exact hm) hx).mono ?_
  rintro e w' ⟨rfl, har, hmv⟩
  rw [ha.1] at har
  have key : ∀ j, ((sl.set i { sl.getD i dS with ws := fillL (szN c) l }).getD j dS).cls = (sl.getD j dS).cls ∧ ((sl.set i { sl.getD i dS with ws := fillL (szN c) l }).getD j dS).gen = (sl.getD j dS).gen ∧ ((sl.set i { sl.getD i dS with ws := fillL (szN c) l }).getD j dS).live = (sl.getD j dS).live ∧ ((sl.set i { sl.getD i dS with ws := fillL (szN c) l }).getD j dS).blk = (sl.getD j dS).blk := fun j => by
    rw [getD_set (by omega)]
    split
    · rename_i e; subst e; exact ⟨rfl, rfl, rfl, rfl⟩
    · exact ⟨rfl, rfl, rfl, rfl⟩
  refine ⟨rfl, _, ⟨har, ⟨fun j hj => ?_, fun e y hy => ?_, fun j hj => ?_⟩, by rw [List.length_set]; exact hlen, fun j hj => ?_, h.cnt⟩, hmv.to (fun b hb => foot_len (List.length_set ..) (fun j => (key j).2.2.2) hb), fun j hj => ?_, ?_⟩
  · rw [List.length_set] at hj
    rw [(key j).1, (key j).2.2.1]; exact h.ok.free j hj
  · obtain ⟨j, hj, e1, e2⟩ := h.ok.only e y hy
    exact ⟨j, by rw [List.length_set]; exact hj, e1, by rw [(key j).1]; exact e2⟩
  · rw [List.length_set] at hj
    rw [(key j).2.1]; exact h.ok.gen j hj
  · rw [(key j).1, (key j).2.1, (key j).2.2.1]; exact h.all j hj
  · rw [getD_set (by omega), if_neg hj]
  · rw [getD_set (by omega), if_pos rfl]
/-- A swap that isn't. -/
theorem LA.unswapped {k n d : Nat} {lv : Nat → Bool} {gs : Nat → Nat} {sl : List Sl} {V : Nat → Value} {xs : Nat → List Int} (h : LA N B S k n c G d lv gs sl P I V xs W) (hn : n ≤ 1024) (hG : G ≤ 1000000) {i : Nat} (hi : i < n) (hl : lv i = true) {x : Int} (hx : (sl.getD i dS).ws.getD 0 0 ≠ x) (A : Option Addr) (mm cc : Nat) (hm : mm ≤ szN c) :
    Calls Try.prog 17 #[.pointer (some ⟨B, 0, none⟩), .int .i64 (refV (i : Nat) (gs i : Nat) (((c : Nat) : Int) == 0)), .int .u64 x, .slice A mm cc] W fun e w' => e = .returned (.tuple #[.bool false, .int .i64 0]) ∧ w' = W := by
  have hlen := h.len
  have ha := h.all i hi
  have hg := h.ok.gen i (by omega)
  have hlv := live_ref (sl := sl) (i := i) (by omega) (by omega) (by rw [ha.2.2]; exact hl) (by omega)
  rw [ha.1, ha.2.1] at hlv
  exact swap_ne h.ar (by omega) hlv x A mm cc (by rw [ha.1]; exact hm) hx
theorem OS.more (h : OS w N B S c P I G m q VR VG VV W) : OS w N B S c P I (G + 1) m q VR VG VV W := by
  obtain ⟨lv, gs, sl, V, xs, ps, vs, gn, h1, h2⟩ := h
  exact ⟨lv, gs, sl, V, xs, ps, vs, gn, h1.more, h2⟩
theorem OS.on (h : OS w N B S c P I G m q VR VG VV W) (hb : Below W.heap.size W W') : OS w N B S c P I G m q VR VG VV W' := by
  obtain ⟨lv, gs, sl, V, xs, ps, vs, gn, h1, h2, h3⟩ := h
  exact ⟨lv, gs, sl, V, xs, ps, vs, gn, h1.on hb, h2.on hb, h3⟩
theorem refs_get {ps : List Nat} {gs : Nat → Nat} {k : Nat} (hk : k < ps.length) : (refs ps gs c).getD k 0 = refV (ps.getD k 0 : Nat) (gs (ps.getD k 0) : Nat) (((c : Nat) : Int) == 0) := by
  unfold refs
  rw [List.getD_eq_getElem?_getD, List.getElem?_map, List.getElem?_eq_getElem hk, List.getD_eq_getElem?_getD, List.getElem?_eq_getElem hk]
  simp only [Option.map_some, Option.getD_some]
/-- Alloc of one word where there is room: the rows wait. -/
def OSa (w : World) (N B S c : Nat) (P I : Nat → Nat) (G m q : Nat) (VR VG VV : Value) (r x : Int) (W : World) : Prop :=
  ∃ lv gs sl V xs ps vs gn i0, LA N B S 4 4 c G (4 - (m + 1)) lv gs sl P I V xs W ∧ OR w (Foot B S 5 sl P I V) N m q (refs ps gs c) (gns gn c) vs VR VG VV W ∧ GI gs lv sl (ps ++ [i0]) (vs ++ [x]) gn ∧ ps.length = m ∧ m < 4 ∧ r = refV (i0 : Nat) (gs i0 : Nat) (((c : Nat) : Int) == 0) ∧ ∀ y, y ∈ refs ps gs c → y ≠ r
theorem OS.alloc {W0 : World} (h : OS w N B S c P I G m q VR VG VV W0) (hb : Below W0.heap.size W0 W) (hc : c < 5) (hm : m < 4) (hG : G ≤ 1000) {x : Int} (hxb : 0 ≤ x ∧ x < 18446744073709551616) {g : Nat} (hg : W.heap[g]? = some (.cells (wv [x]).toArray 35 (0, 0))) (hge : W0.heap.size ≤ g) :
    Calls Try.prog 23 #[.pointer (some ⟨B, 0, none⟩), .int .i64 (c : Nat), .slice (some ⟨g, 0, none⟩) 1 1] W fun e w' => ∃ r, e = .returned (.tuple #[.int .i64 r, .int .i64 0]) ∧ OSa w N B S c P I G m q VR VG VV r x w' := by
  obtain ⟨lv, gs, sl, V, xs, ps, vs, gn, h1, h2, h3, h4, h5⟩ := h
  obtain ⟨hne, i, hi, hx, hl, hmin⟩ := h1.head hc (by omega)
  have hrd : Reads W W.heap.size 1 (some ⟨g, 0, none⟩) 1 (wv [x]) := ⟨rfl, fun _ => ⟨_, rfl, lt_of_heap hg, fun j u hu => by
    have : (⟨g, 0, none⟩ : Addr).add j = ⟨g, j, none⟩ := by simp [Addr.add]; intro e; exact e.symm
    rw [this, cell_of hg]; simpa using hu⟩⟩
  have hnf : ¬ Foot B S 5 sl P I V g := fun hf => by have := h2.ltF g hf; omega
  replace h1 := h1.on hb
  replace h2 := h2.on hb
  have hip : ¬ i ∈ ps := fun hm => by rw [(h3.lv i hi).2 hm] at hl; cases hl
  have hgen : ∀ j, j < 4 → 1 ≤ gs j ∧ gs j ≤ 1000 := fun j hj => by
    have := h1.ok.gen j (by rw [h1.len]; exact hj)
    rw [(h1.all j hj).2.1] at this; omega
  have ha := h1.all i hi
  refine (h1.alloc hc (by omega) (by omega) (by omega) (by omega) hi hx (cc := 1) hrd (Nat.le_refl _) (fun ad e _ => by injection e with e; subst e; exact hnf) (by have := szN_pos hc; omega)).mono ?_
  rintro e w' ⟨rfl, sl', V', xs', hla, hmv, hsl⟩
  have key : ∀ j, j ≠ i → sl'.getD j dS = sl.getD j dS := fun j hj => by rw [hsl, getD_set (by rw [h1.len]; exact hi), if_neg hj]
  have keyi : (sl'.getD i dS).ws = fillL (szN c) [x] := by rw [hsl, getD_set (by rw [h1.len]; exact hi), if_pos rfl]; show fillL (szN (sl.getD i dS).cls) [x] = _; rw [ha.1]
  refine ⟨_, rfl, _, gs, sl', V', xs', ps, vs, gn, i, by rw [show 4 - (m + 1) = 4 - m - 1 from by omega]; exact hla, h2.mv hmv h1.footN.1 hla.footN.2, ⟨?_, ?_, ?_, ?_, ?_, h3.gone, fun y hy => by
    rw [List.mem_append, List.mem_singleton] at hy
    rcases hy with hy | rfl
    · exact h3.bd y hy
    · exact hxb⟩, h4, hm, rfl, ?_⟩
  · rw [List.nodup_append]
    exact ⟨h3.nd, by simp, fun a' ha' b' hb' => by rw [List.mem_singleton] at hb'; subst hb'; rintro rfl; exact hip ha'⟩
  · intro j hj
    rw [List.mem_append, List.mem_singleton] at hj
    rcases hj with hj | rfl
    · exact h3.lt j hj
    · exact hi
  · intro j hj
    rw [List.mem_append, List.mem_singleton]
    by_cases e : j = i
    · subst e; rw [up_same]; simp
    · rw [up_other _ _ e, h3.lv j hj]; simp [e]
  · rw [List.length_append, List.length_append, h3.vl]; rfl
  · intro k hk
    rw [List.length_append, List.length_singleton] at hk
    by_cases e : k < ps.length
    · rw [List.getD_eq_getElem?_getD (l := ps ++ [i]), List.getElem?_append_left e, ← List.getD_eq_getElem?_getD, List.getD_eq_getElem?_getD (l := vs ++ [x]), List.getElem?_append_left (by rw [h3.vl]; exact e), ← List.getD_eq_getElem?_getD]
      rw [key _ (fun e2 => hip (e2 ▸ getD_memN e))]
      exact h3.vals k e
    · obtain rfl : k = ps.length := by omega
      rw [List.getD_eq_getElem?_getD (l := ps ++ [i]), List.getElem?_append_right (Nat.le_refl _), Nat.sub_self, List.getD_eq_getElem?_getD (l := vs ++ [x]), ← h3.vl, List.getElem?_append_right (Nat.le_refl _), Nat.sub_self]
      show (sl'.getD i dS).ws.getD 0 0 = x
      rw [keyi]; rfl
  · intro y hy e
    unfold refs at hy
    obtain ⟨j, hj, rfl⟩ := List.mem_map.1 hy
    have hj4 := h3.lt j hj
    have hgj := hgen j hj4
    have hgi := hgen i hi
    obtain ⟨e1, -, -⟩ := ref_inj (by omega) (by omega) (by omega) (by omega) e
    have : j = i := by omega
    exact hip (this ▸ hj)
theorem erase_mem {l : List Nat} (hn : l.Nodup) {k : Nat} (hk : k < l.length) (x : Nat) : x ∈ l.eraseIdx k ↔ x ∈ l ∧ x ≠ l.getD k 0 := by
  have hs : l.take k ++ l.getD k 0 :: l.drop (k + 1) = l := by
    rw [List.getD_eq_getElem?_getD, List.getElem?_eq_getElem hk]
    show l.take k ++ l[k] :: l.drop (k + 1) = l
    rw [← List.drop_eq_getElem_cons hk, List.take_append_drop]
  generalize l.getD k 0 = y at *
  rw [List.eraseIdx_eq_take_drop_succ]
  have hn2 := hn
  rw [← hs, List.nodup_append] at hn2
  obtain ⟨n1, n2, n3⟩ := hn2
  have n4 := List.nodup_cons.1 n2
  have hx : x ∈ l ↔ x ∈ l.take k ∨ x = y ∨ x ∈ l.drop (k + 1) := by
    have : x ∈ l ↔ x ∈ l.take k ++ y :: l.drop (k + 1) := by rw [hs]
    rw [this, List.mem_append, List.mem_cons]
  rw [hx, List.mem_append]
  constructor
  · rintro (h | h)
    · exact ⟨.inl h, n3 x h y List.mem_cons_self⟩
    · exact ⟨.inr (.inr h), fun e => n4.1 (e ▸ h)⟩
  · rintro ⟨h | h | h, h2⟩
    · exact .inl h
    · exact absurd h h2
    · exact .inr h
theorem GI.freed {gs : Nat → Nat} {lv : Nat → Bool} {sl sl' : List Sl} {ps : List Nat} {vs : List Int} {gn : List (Nat × Nat)} (h : GI gs lv sl ps vs gn) {k i : Nat} (hk : k < ps.length) (hi : i = ps.getD k 0) (hsl : ∀ j, j ≠ i → sl'.getD j dS = sl.getD j dS) (hg : 1 ≤ gs i) :
    GI (up gs i (gs i + 1)) (up lv i false) sl' (ps.eraseIdx k) (vs.eraseIdx k) (gn ++ [(i, gs i)]) ∧ refs (ps.eraseIdx k) (up gs i (gs i + 1)) c = (refs ps gs c).eraseIdx k := by
  have hm := erase_mem h.nd hk
  rw [← hi] at hm
  have hi4 : i < 4 := h.lt i (by rw [hi]; exact getD_memN hk)
  refine ⟨⟨h.nd.sublist (List.eraseIdx_sublist ..), fun j hj => h.lt j ((hm j).1 hj).1, fun j hj => ?_, ?_, fun j hj => ?_, fun e he => ?_, fun y hy => h.bd y (List.mem_of_mem_eraseIdx hy)⟩, ?_⟩
  · rw [hm]
    by_cases e : j = i
    · subst e; rw [up_same]; simp
    · rw [up_other _ _ e, h.lv j hj]; simp [e]
  · rw [List.length_eraseIdx, List.length_eraseIdx, h.vl]
  · have hlen : (ps.eraseIdx k).length = ps.length - 1 := by rw [List.length_eraseIdx, if_pos hk]
    have h1 : (ps.eraseIdx k).getD j 0 ∈ ps.eraseIdx k := getD_memN hj
    rw [hsl _ ((hm _).1 h1).2]
    rw [List.getD_eq_getElem?_getD (l := ps.eraseIdx k), List.getElem?_eraseIdx, List.getD_eq_getElem?_getD (l := vs.eraseIdx k), List.getElem?_eraseIdx]
    by_cases e : j < k
    · rw [if_pos e, if_pos e, ← List.getD_eq_getElem?_getD, ← List.getD_eq_getElem?_getD]; exact h.vals j (by omega)
    · rw [if_neg e, if_neg e, ← List.getD_eq_getElem?_getD, ← List.getD_eq_getElem?_getD]; exact h.vals (j + 1) (by omega)
  · rw [List.mem_append, List.mem_singleton] at he
    rcases he with he | rfl
    · have := h.gone e he
      refine ⟨this.1, this.2.1, ?_⟩
      by_cases e2 : e.1 = i
      · rw [e2, up_same]; rw [e2] at this; omega
      · rw [up_other _ _ e2]; exact this.2.2
    · exact ⟨hi4, hg, by show _ < up gs i (gs i + 1) i; rw [up_same]; omega⟩
  · unfold refs
    rw [List.eraseIdx_eq_take_drop_succ, List.eraseIdx_eq_take_drop_succ, ← List.map_take, ← List.map_drop, ← List.map_append]
    rw [List.eraseIdx_eq_take_drop_succ] at hm
    apply List.map_congr_left
    intro j hj
    rw [up_other _ _ ((hm j).1 hj).2]
theorem GI.swapped {gs : Nat → Nat} {lv : Nat → Bool} {sl sl' : List Sl} {ps : List Nat} {vs : List Int} {gn : List (Nat × Nat)} (h : GI gs lv sl ps vs gn) {k i : Nat} {x : Int} (hk : k < ps.length) (hi : i = ps.getD k 0) (hsl : ∀ j, j ≠ i → sl'.getD j dS = sl.getD j dS) (hx : (sl'.getD i dS).ws.getD 0 0 = x) (hxb : 0 ≤ x ∧ x < 18446744073709551616) :
    GI gs lv sl' ps (vs.set k x) gn := by
  refine ⟨h.nd, h.lt, h.lv, by rw [List.length_set]; exact h.vl, fun j hj => ?_, h.gone, fun y hy => (List.mem_or_eq_of_mem_set hy).elim (h.bd y) (fun e => e ▸ hxb)⟩
  have hvl := h.vl
  rw [List.getD_eq_getElem?_getD (l := vs.set k x), List.getElem?_set]
  by_cases e : k = j
  · subst e
    rw [if_pos rfl, if_pos (by omega), ← hi, hx]; rfl
  · rw [if_neg e, ← List.getD_eq_getElem?_getD]
    have hne : ps.getD j 0 ≠ i := by
      rw [hi]
      intro e2
      rw [List.getD_eq_getElem?_getD, List.getD_eq_getElem?_getD, List.getElem?_eq_getElem hj, List.getElem?_eq_getElem hk] at e2
      have e3 : ps[j] = ps[k] := e2
      rcases Nat.lt_or_gt_of_ne e with e4 | e4
      · exact (List.pairwise_iff_getElem.1 h.nd k j hk hj e4) e3.symm
      · exact (List.pairwise_iff_getElem.1 h.nd j k hj hk e4) e3
    rw [hsl _ hne]
    exact h.vals j hj
end

/-- The asks: their fields 0, 3 and 4. -/
def Asks (W : World) (A : Option Addr) (len : Nat) (F : Nat → Nat → Int) : Prop :=
  ∀ i, i < len → ∃ ad, A = some ad ∧ ad.block < W.heap.size ∧ W.cell? (ad.add (i * 7)) = some (.int .i64 (F i 0)) ∧ W.cell? (ad.add (i * 7 + 3)) = some (.int .i64 (F i 3)) ∧ W.cell? (ad.add (i * 7 + 4)) = some (.int .u64 (F i 4))
theorem Fr.four {c : Nat} (hc : c < 5) : sumN (fun i => if i = c then 4 else 0) 5 = 4 := by
  have : c = 0 ∨ c = 1 ∨ c = 2 ∨ c = 3 ∨ c = 4 := by omega
  rcases this with rfl | rfl | rfl | rfl | rfl <;> simp [sumN]
theorem gone_get {gn : List (Nat × Nat)} {c z : Nat} (hz : z < gn.length) : ∃ i g, (i, g) ∈ gn ∧ (gns gn c).getD z 0 = refV (i : Nat) (g : Nat) (((c : Nat) : Int) == 0) := by
  refine ⟨(gn[z]).1, (gn[z]).2, List.getElem_mem hz, ?_⟩
  unfold gns
  rw [List.getD_eq_getElem?_getD, List.getElem?_map, List.getElem?_eq_getElem hz]
  simp only [Option.map_some, Option.getD_some]
/-- What a gone ref is told. -/
theorem why_gone {c n i g : Nat} {sl : List Sl} (h1 : i < sl.length) (h2 : i < 1024) (hc : (sl.getD i dS).cls = c) (hg : 1 ≤ g ∧ g ≤ 1073741824) (hne : g ≠ (sl.getD i dS).gen) : Why sl (refV (i : Nat) (g : Nat) (((c : Nat) : Int) == 0)) 4 := by
  obtain ⟨e1, e2, e3⟩ := slot_part (s := (i : Int)) (g := (g : Int)) (l := (((c : Nat) : Int) == 0)) (by omega) (by omega)
  exact .gen i (good_ref (by omega) (by omega)) h1 e1 (by rw [e3, hc]) (by rw [e2]; omega)
end Go.Proofs.Ytndmpdpmfieacaa

namespace Go.Proofs.Ytndmpdpmfieacaa
open Go.RowKit Go.WideShapes Go.ChangeShapes
set_option linter.all false
theorem Reads.front {w : World} {B n k : Nat} {κ : IntKind} {A : Option Addr} {xs : List Int} (h : Reads w B 1 A n (ks κ xs)) (hk : k ≤ n) : Reads w B 1 A k (ks κ (xs.take k)) := by
  have hl := h.1
  rw [ks_len, Nat.mul_one] at hl
  refine ⟨by rw [ks_len, List.length_take, Nat.mul_one]; omega, fun hp => ?_⟩
  obtain ⟨ad, rfl, hb, hc⟩ := h.2 (by omega)
  refine ⟨ad, rfl, hb, fun j u hu => hc j u ?_⟩
  unfold ks at hu ⊢
  rw [List.map_take, List.getElem?_take] at hu
  split at hu
  · exact hu
  · cases hu
/-- The rows of the good refs and the values laid anew. -/
theorem OR.erased {w W W1 W2 : World} {F : Nat → Prop} {N m m' q : Nat} {rs gn vs rs' vs' : List Int} {VR VG VV VR' VV' : Value} (h : OR w F N m q rs gn vs VR VG VV W) (hb : Below W.heap.size W W1) (hr : Mid W1 W.heap.size 3 1 VR' m' (ks .i64 rs')) (hb2 : Below W1.heap.size W1 W2) (hv : Mid W2 W1.heap.size 35 1 VV' m' (ks .u64 vs')) :
    OR w F N m' q rs' gn vs' VR' VG VV' W2 := by
  obtain ⟨r1, ap⟩ := h.newR hb hr
  have h1 := h.on hb
  have h2 := h1.on hb2
  exact ⟨r1.on hb2, h2.rg, ⟨hv.lower h1.NW.2, fun g hg hf => by have := (hv.lt g hg).1; have := h1.ltF g hf; omega⟩, ap, h2.bel, h2.ltF, h2.NW⟩
set_option maxRecDepth 100000 in
set_option maxHeartbeats 6400000 in
/-- Region 31: the row of 45 without its k-th place, laid anew. -/
theorem reg31 {w : World} {N k m m2 cr : Nat} {adr : Addr} {xs : List Int} {u0 u1 u2 u3 u4 u5 u6 u7 u8 u10 u11 u12 u13 u14 u15 u16 u18 u19 u20 u21 u22 u23 u24 u25 u26 u27 u28 u29 u30 u31 u32 u33 u34 u35 u36 u37 u38 u39 u40 u41 u42 u43 u44 u45 u46 u47 u48 u49 u50 u51 u52 u53 u54 u55 u56 u57 u58 u59 u60 u61 u62 u63 u64 u65 u66 u67 u68 u69 u70 u71 u72 u73 u74 u75 u76 u77 u78 u79 u80 u81 u82 u83 u84 u85 u86 u87 u88 u89 u90 u91 u92 u93 u94 u95 u96 u97 u98 u99 u100 u101 u102 u103 u104 u105 u106 u107 u108 u109 u110 u111 u112 u113 u114 u115 u116 u117 u118 u119 u120 u121 u122 u123 u124 u125 u126 u127 u128 u129 u130 u131 u132 u133 u134 u135 u136 u137 u138 u139 u140 u141 u142 u143 u144 u145 u146 u147 u148 u149 u150 u151 u152 u153 u154 u155 u156 u157 u158 u159 u160 u161 u162 u163 u164 u165 u166 u167 u168 u169 u170 u171 u172 u173 u174 u175 u176 u177 u178 u179 u180 u181 u182 u183 u184 u185 u186 u187 u188 u189 u190 u191 u192 u193 u194 u195 u196 u197 u198 u199 u200 u201 u202 u203 u204 u205 u206 u207 u208 u209 u210 u211 u212 u213 u214 u215 u216 u217 u218 u219 u220 u221 u222 u223 u224 u225 u226 u227 u228 u229 u230 u231 u232 u233 u234 u235 u236 u237 u238 u239 u240 u241 u242 u243 u244 u245 u246 u247 u248 u249 u250 u251 u252 u253 u254 u255 u256 u257 u258 u259 u260 u261 u262 u263 u264 u265 u266 u267 u268 u269 u270 u271 u272 u273 u274 u275 : Value} {Q : Exit → Act → World → Prop}
    (h : Mid w N 3 1 (.slice (some adr) m cr) m (ks .i64 xs)) (hk : k < m) (hm4 : m ≤ 4) (hm2 : m2 + 1 = m)
    (hpn : ∀ c (a : Act) i v w, Q (.panic c) (a.put (some i) v) w → Q (.panic c) a w)
    (hQ : ∀ (v126 v127 v128 v129 v130 v131 v132 v133 v134 v135 : Value) (A2 : Option Addr) (c2 : Nat) (w' : World), Below w.heap.size w w' → Mid w' w.heap.size 3 1 (.slice A2 m2 c2) m2 (ks .i64 (xs.eraseIdx k)) → Q .normal { tmps := #[u0, u1, u2, u3, u4, u5, u6, u7, u8, Value.slice A2 m2 c2, u10, u11, u12, u13, u14, u15, u16, Value.int IntKind.i64 (k : Nat), u18, u19, u20, u21, u22, u23, u24, u25, u26, u27, u28, u29, u30, u31, u32, u33, u34, u35, u36, u37, u38, u39, u40, u41, u42, u43, u44, u45, u46, u47, u48, u49, u50, u51, u52, u53, u54, u55, u56, u57, u58, u59, u60, u61, u62, u63, u64, u65, u66, u67, u68, u69, u70, u71, u72, u73, u74, u75, u76, u77, u78, u79, u80, u81, u82, u83, u84, u85, u86, u87, u88, u89, u90, u91, u92, u93, u94, u95, u96, u97, u98, u99, u100, u101, u102, u103, u104, u105, u106, u107, u108, u109, u110, u111, u112, u113, u114, u115, u116, u117, u118, u119, u120, u121, u122, u123, u124, u125, v126, v127, v128, v129, v130, v131, v132, v133, v134, v135, u136, u137, u138, u139, u140, u141, u142, u143, u144, u145, u146, u147, u148, u149, u150, u151, u152, u153, u154, u155, u156, u157, u158, u159, u160, u161, u162, u163, u164, u165, u166, u167, u168, u169, u170, u171, u172, u173, u174, u175, u176, u177, u178, u179, u180, u181, u182, u183, u184, u185, u186, u187, u188, u189, u190, u191, u192, u193, u194, u195, u196, u197, u198, u199, u200, u201, u202, u203, u204, u205, u206, u207, u208, u209, u210, u211, u212, u213, u214, u215, u216, u217, u218, u219, u220, u221, u222, u223, u224, u225, u226, u227, u228, u229, u230, u231, u232, u233, u234, u235, u236, u237, u238, u239, u240, u241, u242, u243, u244, u245, u246, u247, u248, u249, u250, u251, u252, u253, u254, u255, u256, u257, u258, u259, u260, u261, u262, u263, u264, u265, u266, u267, u268, u269, u270, u271, u272, u273, u274, u275], defers := [] } w') :
    (Code.region 31 (#[{ dst := some 126, op := Op.buildSlice 45 0 #[], type := 45, pos := "law.go:143", after := #[], guard := none }, { dst := some 127, op := Op.move (Operand.tmp 9), type := 45, pos := "law.go:143", after := #[], guard := none }, { dst := some 128, op := Op.move (Operand.tmp 17), type := 3, pos := "law.go:143", after := #[], guard := none }, { dst := some 129, op := Op.slice 45 (Operand.tmp 127) none (some (Operand.tmp 128)) none, type := 45, pos := "law.go:143", after := #[{ on := 1, ground := Ground.data }, { on := 2, ground := Ground.data }], guard := none }, { dst := some 130, op := Op.call { callee := Callee.builtin Builtin.append, args := #[Operand.tmp 126, Operand.tmp 129], argTypes := #[45, 45] }, type := 45, pos := "law.go:143", after := #[{ on := 0, ground := Ground.data }, { on := 3, ground := Ground.data }], guard := none }, { dst := some 131, op := Op.move (Operand.tmp 9), type := 45, pos := "law.go:143", after := #[], guard := none }, { dst := some 132, op := Op.move (Operand.tmp 17), type := 3, pos := "law.go:143", after := #[], guard := none }, { dst := some 133, op := Op.binOp BinOp.add 3 (Operand.tmp 132) (Operand.const (Value.int IntKind.i64 1)) 3, type := 3, pos := "law.go:143", after := #[{ on := 6, ground := Ground.data }], guard := none }, { dst := some 134, op := Op.slice 45 (Operand.tmp 131) (some (Operand.tmp 133)) none none, type := 45, pos := "law.go:143", after := #[{ on := 5, ground := Ground.data }, { on := 7, ground := Ground.data }], guard := none }, { dst := some 135, op := Op.call { callee := Callee.builtin Builtin.append, args := #[Operand.tmp 130, Operand.tmp 134], argTypes := #[45, 45] }, type := 45, pos := "law.go:143", after := #[{ on := 4, ground := Ground.data }, { on := 8, ground := Ground.data }, { on := 4, ground := Ground.chain }], guard := none }, { dst := some 9, op := Op.assign (Operand.tmp 135), type := 45, pos := "law.go:143", after := #[{ on := 9, ground := Ground.data }, { on := 9, ground := Ground.chain }, { on := 0, ground := Ground.phase }, { on := 1, ground := Ground.phase }, { on := 2, ground := Ground.phase }, { on := 3, ground := Ground.phase }, { on := 4, ground := Ground.phase }, { on := 5, ground := Ground.phase }, { on := 6, ground := Ground.phase }, { on := 7, ground := Ground.phase }, { on := 8, ground := Ground.phase }, { on := 9, ground := Ground.phase }], guard := none }] : Array Oper) true).wp Try.prog Q { tmps := #[u0, u1, u2, u3, u4, u5, u6, u7, u8, Value.slice (some adr) m cr, u10, u11, u12, u13, u14, u15, u16, Value.int IntKind.i64 (k : Nat), u18, u19, u20, u21, u22, u23, u24, u25, u26, u27, u28, u29, u30, u31, u32, u33, u34, u35, u36, u37, u38, u39, u40, u41, u42, u43, u44, u45, u46, u47, u48, u49, u50, u51, u52, u53, u54, u55, u56, u57, u58, u59, u60, u61, u62, u63, u64, u65, u66, u67, u68, u69, u70, u71, u72, u73, u74, u75, u76, u77, u78, u79, u80, u81, u82, u83, u84, u85, u86, u87, u88, u89, u90, u91, u92, u93, u94, u95, u96, u97, u98, u99, u100, u101, u102, u103, u104, u105, u106, u107, u108, u109, u110, u111, u112, u113, u114, u115, u116, u117, u118, u119, u120, u121, u122, u123, u124, u125, u126, u127, u128, u129, u130, u131, u132, u133, u134, u135, u136, u137, u138, u139, u140, u141, u142, u143, u144, u145, u146, u147, u148, u149, u150, u151, u152, u153, u154, u155, u156, u157, u158, u159, u160, u161, u162, u163, u164, u165, u166, u167, u168, u169, u170, u171, u172, u173, u174, u175, u176, u177, u178, u179, u180, u181, u182, u183, u184, u185, u186, u187, u188, u189, u190, u191, u192, u193, u194, u195, u196, u197, u198, u199, u200, u201, u202, u203, u204, u205, u206, u207, u208, u209, u210, u211, u212, u213, u214, u215, u216, u217, u218, u219, u220, u221, u222, u223, u224, u225, u226, u227, u228, u229, u230, u231, u232, u233, u234, u235, u236, u237, u238, u239, u240, u241, u242, u243, u244, u245, u246, u247, u248, u249, u250, u251, u252, u253, u254, u255, u256, u257, u258, u259, u260, u261, u262, u263, u264, u265, u266, u267, u268, u269, u270, u271, u272, u273, u274, u275], defers := [] } w := by
  have HQ := Lib.hid hQ
  have HPN := Lib.hid hpn
  clear hpn
  clear hQ
  obtain ⟨i5, hi5, z5a, z5b, z5c⟩ := info_parts info3
  have hcap := h.caps.1
  obtain ⟨Wd, hWd⟩ : ∃ Wd : World, Wd = w.drew := ⟨_, rfl⟩
  have HM : Hid (Mid Wd N 3 1 (.slice (some adr) m cr) m (ks .i64 xs)) := Lib.hid (by rw [hWd]; exact h.onb (below_drew w))
  have HB : Hid (Below w.heap.size w Wd) := Lib.hid (by rw [hWd]; exact below_drew w)
  have HS : Hid (Wd.heap.size = w.heap.size) := Lib.hid (by rw [hWd]; rfl)
  have hxl : xs.length = m := by have := h.1; rw [ks_len] at this; omega
  have HXL := Lib.hid hxl
  clear hxl h
  dsimp only
  refine wp_region_K SX 0 (by kernel_rfl) ?_
  rw [← hWd]
  clear hWd
  obtain ⟨k1, hk1⟩ : ∃ k1, k1 = k + 1 := ⟨_, rfl⟩
  have hk1i : ((k : Nat) : Int) + 1 = (k1 : Nat) := by omega
  have hkc : k ≤ cr := by omega
  have hkm : k ≤ m := by omega
  have hkm1 : k1 ≤ m := by omega
  have hkc1 : k1 ≤ cr := by omega
  have k00 : (0 : Int) ≤ k := by omega
  have k10 : (0 : Int) ≤ k1 := by omega
  have hki : (k : Int) ≤ cr := by omega
  have hki1 : (k1 : Int) ≤ m := by omega
  have hki2 : (m : Int) ≤ cr := by omega
  have HK1 := Lib.hid hk1
  have hwr : IntKind.i64.wrap ((k1 : Nat) : Int) = (k1 : Nat) := IntWalk.i64_in _ (by omega)
  clear hk1
  have HRT : Hid (Reads Wd Wd.heap.size 1 (some adr) k (ks .i64 (xs.take k))) := Lib.hid (HM.out.readsv.front hkm)
  have HRD := Lib.hid (HM.out.readsv.cut hkm1 hcap)
  have HX : Hid (ks .i64 (xs.eraseIdx k) = ks .i64 (xs.take k) ++ (ks .i64 xs).drop (k1 * 1)) := Lib.hid (by
    rw [List.eraseIdx_eq_take_drop_succ, ks_append, HK1.out, Nat.mul_one]
    unfold ks
    rw [List.map_drop])
  have HM2 : Hid (k + (m - k1) = m2) := Lib.hid (by have := HK1.out; omega)
  have HME : Hid (Mid (Wd.alloc (.cells #[] 3)) Wd.heap.size 3 1 (.slice (some ⟨Wd.heap.size, 0, none⟩) 0 0) 0 []) := Lib.hid ⟨rfl, .inr ⟨_, 0, 0, #[], rfl, Nat.le_refl _, heap_alloc_new Wd _, Nat.le_refl _, Nat.zero_le _, by simp, rfl⟩⟩
  refine wpAnyK_pure (i := 1) (oi := _) (v := ?_) (by rfl) (by kernel_rfl) (fun c a w h => HPN.out c a _ _ w h) (Or.inl ⟨by rfl, ?_⟩) ?_
  rotate_left 1
  · intro w' _
    go_simp
    all_goals with_reducible rfl
  simp only [Act.put, List.getElem_toArray, List.getElem_cons_zero, List.getElem_cons_succ, List.setIfInBounds_toArray, List.set_cons_zero, List.set_cons_succ]
  refine wpAnyK_pure (i := 2) (oi := _) (v := ?_) (by rfl) (by kernel_rfl) (fun c a w h => HPN.out c a _ _ w h) (Or.inl ⟨by rfl, ?_⟩) ?_
  rotate_left 1
  · intro w' _
    go_simp
    all_goals with_reducible rfl
  simp only [Act.put, List.getElem_toArray, List.getElem_cons_zero, List.getElem_cons_succ, List.setIfInBounds_toArray, List.set_cons_zero, List.set_cons_succ]
  refine wpAnyK_pure (i := 3) (oi := _) (v := ?_) (by rfl) (by kernel_rfl) (fun c a w h => HPN.out c a _ _ w h) (Or.inl ⟨by rfl, ?_⟩) ?_
  rotate_left 1
  · intro w' _
    go_simp
    all_goals with_reducible rfl
  simp only [Act.put, List.getElem_toArray, List.getElem_cons_zero, List.getElem_cons_succ, List.setIfInBounds_toArray, List.set_cons_zero, List.set_cons_succ]
  refine wpAnyK_pure (i := 5) (oi := _) (v := ?_) (by rfl) (by kernel_rfl) (fun c a w h => HPN.out c a _ _ w h) (Or.inl ⟨by rfl, ?_⟩) ?_
  rotate_left 1
  · intro w' _
    go_simp
    all_goals with_reducible rfl
  simp only [Act.put, List.getElem_toArray, List.getElem_cons_zero, List.getElem_cons_succ, List.setIfInBounds_toArray, List.set_cons_zero, List.set_cons_succ]
  refine wpAnyK_pure (i := 6) (oi := _) (v := ?_) (by rfl) (by kernel_rfl) (fun c a w h => HPN.out c a _ _ w h) (Or.inl ⟨by rfl, ?_⟩) ?_
  rotate_left 1
  · intro w' _
    go_simp
    all_goals with_reducible rfl
  simp only [Act.put, List.getElem_toArray, List.getElem_cons_zero, List.getElem_cons_succ, List.setIfInBounds_toArray, List.set_cons_zero, List.set_cons_succ]
  refine wpAnyK_pure (i := 7) (oi := _) (v := ?_) (by rfl) (by kernel_rfl) (fun c a w h => HPN.out c a _ _ w h) (Or.inl ⟨by rfl, ?_⟩) ?_
  rotate_left 1
  · intro w' _
    go_simp
    all_goals with_reducible rfl
  simp only [Act.put, List.getElem_toArray, List.getElem_cons_zero, List.getElem_cons_succ, List.setIfInBounds_toArray, List.set_cons_zero, List.set_cons_succ]

  generalize hAD : (if cr = k1 then (some adr) else (some adr).map (·.add (k1 * 1))) = AD at HRD
  have HAD : Hid ((if cr = k1 then (some adr : Option Addr) else some (adr.add k1)) = AD) := Lib.hid (by rw [← hAD, Nat.mul_one]; rfl)
  clear hAD
  refine wpAnyK_pure (i := 8) (oi := _) (v := ?_) (by rfl) (by kernel_rfl) (fun c a w h => HPN.out c a _ _ w h) (Or.inl ⟨by rfl, ?_⟩) ?_
  rotate_left 1
  · intro w' _
    go_simp
    all_goals with_reducible rfl
  simp only [Act.put, List.getElem_toArray, List.getElem_cons_zero, List.getElem_cons_succ, List.setIfInBounds_toArray, List.set_cons_zero, List.set_cons_succ]
  try rw [HAD.out]
  refine wpAnyK_all (rs := [0]) (by kernel_rfl) (by simp) ?_
  intro ix hix
  simp only [List.mem_cons, List.not_mem_nil, or_false] at hix
  subst hix
  refine wpK_op (o := _) (by rfl) (fun K hK => ?_)
  refine step_build0 45 3 (run_b45 _) (by rfl) (by rfl) ?_
  refine hK _ _ (fun _ _ => trivial) ?_
  clear hK K
  try simp only [Act.put, List.getElem_toArray, List.getElem_cons_zero, List.getElem_cons_succ, List.setIfInBounds_toArray, List.set_cons_zero, List.set_cons_succ]
  refine wpAnyK_all (rs := [4]) (by kernel_rfl) (by simp) ?_
  intro ix hix
  simp only [List.mem_cons, List.not_mem_nil, or_false] at hix
  subst hix
  refine wpK_op (o := _) (by rfl) (fun K hK => ?_)
  refine step_append_src (by rfl) _ _ _ (by rfl) Wd.heap.size 3 i5 _ 1 8 Try.underlying45 hi5 z5a z5b z5c rfl (by omega) (.slice (some ⟨Wd.heap.size, 0, none⟩) 0 0) 0 [] (by rfl) HME.out Wd.heap.size (some adr) k _ (ks .i64 (xs.take k)) (by rfl) (HRT.out.below (below_alloc Wd _)) (ks_one _ _) (by unfold maxLen; omega) (by omega) (by simp) ?_
  intro v9 w9 hmm hran
  rw [Nat.zero_add, List.nil_append] at hmm
  have HM9 := Lib.hid hmm
  have HB9 : Hid (Below Wd.heap.size Wd w9) := Lib.hid ((below_alloc Wd (.cells #[] 3)).grown hran.grown (by simp) (fun g hg => (HME.out.lt g hg).1))
  clear hmm hran
  refine hK _ _ (fun _ _ => trivial) ?_
  clear hK K
  try simp only [Act.put, List.getElem_toArray, List.getElem_cons_zero, List.getElem_cons_succ, List.setIfInBounds_toArray, List.set_cons_zero, List.set_cons_succ]
  refine wpAnyK_all (rs := [9]) (by kernel_rfl) (by simp) ?_
  intro ix hix
  simp only [List.mem_cons, List.not_mem_nil, or_false] at hix
  subst hix
  refine wpK_op (o := _) (by rfl) (fun K hK => ?_)
  refine step_append_src (by rfl) _ _ _ (by rfl) Wd.heap.size 3 i5 _ 1 8 Try.underlying45 hi5 z5a z5b z5c rfl (by omega) v9 k (ks .i64 (xs.take k)) (by rfl) HM9.out Wd.heap.size AD (m - k1) _ ((ks .i64 xs).drop (k1 * 1)) (by rfl) (HRD.out.below HB9.out) (fun u hu => ks_one .i64 xs u (List.mem_of_mem_drop hu)) (by unfold maxLen; omega) (by omega) HB9.out.size ?_
  intro v8 w8 hmm hran
  rw [← HX.out, HM2.out] at hmm
  have HM8 := Lib.hid hmm
  have HB8 : Hid (Below Wd.heap.size Wd w8) := Lib.hid (HB9.out.grown hran.grown HB9.out.size (fun g hg => (HM9.out.lt g hg).1))
  clear hmm hran
  obtain ⟨A8, c8, e8⟩ := HM8.out.form
  subst e8
  refine hK _ _ (fun _ _ => trivial) ?_
  clear hK K
  try simp only [Act.put, List.getElem_toArray, List.getElem_cons_zero, List.getElem_cons_succ, List.setIfInBounds_toArray, List.set_cons_zero, List.set_cons_succ]
  refine wpAnyK_all (rs := [10]) (by kernel_rfl) (by simp) ?_
  intro ix hix
  simp only [List.mem_cons, List.not_mem_nil, or_false] at hix
  subst hix
  refine wpK_op (o := _) (by rfl) (fun K hK => ?_)
  go_simp
  refine hK _ _ (fun _ _ => trivial) ?_
  clear hK K
  try simp only [Act.put, List.getElem_toArray, List.getElem_cons_zero, List.getElem_cons_succ, List.setIfInBounds_toArray, List.set_cons_zero, List.set_cons_succ]
  refine wpAnyK_done (by kernel_rfl) ?_ _
  have hb8 := HB8.out
  have hm8 := HM8.out
  rw [HS.out] at hb8 hm8
  exact HQ.out _ _ _ _ _ _ _ _ _ _ A8 c8 w8 (HB.out.trans hb8) hm8
set_option maxRecDepth 100000 in
set_option maxHeartbeats 6400000 in
/-- Region 32: the row of 30 without its k-th place, laid anew. -/
theorem reg32 {w : World} {N k m m2 cr : Nat} {adr : Addr} {xs : List Int} {u0 u1 u2 u3 u4 u5 u6 u7 u8 u9 u10 u12 u13 u14 u15 u16 u18 u19 u20 u21 u22 u23 u24 u25 u26 u27 u28 u29 u30 u31 u32 u33 u34 u35 u36 u37 u38 u39 u40 u41 u42 u43 u44 u45 u46 u47 u48 u49 u50 u51 u52 u53 u54 u55 u56 u57 u58 u59 u60 u61 u62 u63 u64 u65 u66 u67 u68 u69 u70 u71 u72 u73 u74 u75 u76 u77 u78 u79 u80 u81 u82 u83 u84 u85 u86 u87 u88 u89 u90 u91 u92 u93 u94 u95 u96 u97 u98 u99 u100 u101 u102 u103 u104 u105 u106 u107 u108 u109 u110 u111 u112 u113 u114 u115 u116 u117 u118 u119 u120 u121 u122 u123 u124 u125 u126 u127 u128 u129 u130 u131 u132 u133 u134 u135 u136 u137 u138 u139 u140 u141 u142 u143 u144 u145 u146 u147 u148 u149 u150 u151 u152 u153 u154 u155 u156 u157 u158 u159 u160 u161 u162 u163 u164 u165 u166 u167 u168 u169 u170 u171 u172 u173 u174 u175 u176 u177 u178 u179 u180 u181 u182 u183 u184 u185 u186 u187 u188 u189 u190 u191 u192 u193 u194 u195 u196 u197 u198 u199 u200 u201 u202 u203 u204 u205 u206 u207 u208 u209 u210 u211 u212 u213 u214 u215 u216 u217 u218 u219 u220 u221 u222 u223 u224 u225 u226 u227 u228 u229 u230 u231 u232 u233 u234 u235 u236 u237 u238 u239 u240 u241 u242 u243 u244 u245 u246 u247 u248 u249 u250 u251 u252 u253 u254 u255 u256 u257 u258 u259 u260 u261 u262 u263 u264 u265 u266 u267 u268 u269 u270 u271 u272 u273 u274 u275 : Value} {Q : Exit → Act → World → Prop}
    (h : Mid w N 35 1 (.slice (some adr) m cr) m (ks .u64 xs)) (hk : k < m) (hm4 : m ≤ 4) (hm2 : m2 + 1 = m)
    (hpn : ∀ c (a : Act) i v w, Q (.panic c) (a.put (some i) v) w → Q (.panic c) a w)
    (hQ : ∀ (v136 v137 v138 v139 v140 v141 v142 v143 v144 v145 : Value) (A2 : Option Addr) (c2 : Nat) (w' : World), Below w.heap.size w w' → Mid w' w.heap.size 35 1 (.slice A2 m2 c2) m2 (ks .u64 (xs.eraseIdx k)) → Q .normal { tmps := #[u0, u1, u2, u3, u4, u5, u6, u7, u8, u9, u10, Value.slice A2 m2 c2, u12, u13, u14, u15, u16, Value.int IntKind.i64 (k : Nat), u18, u19, u20, u21, u22, u23, u24, u25, u26, u27, u28, u29, u30, u31, u32, u33, u34, u35, u36, u37, u38, u39, u40, u41, u42, u43, u44, u45, u46, u47, u48, u49, u50, u51, u52, u53, u54, u55, u56, u57, u58, u59, u60, u61, u62, u63, u64, u65, u66, u67, u68, u69, u70, u71, u72, u73, u74, u75, u76, u77, u78, u79, u80, u81, u82, u83, u84, u85, u86, u87, u88, u89, u90, u91, u92, u93, u94, u95, u96, u97, u98, u99, u100, u101, u102, u103, u104, u105, u106, u107, u108, u109, u110, u111, u112, u113, u114, u115, u116, u117, u118, u119, u120, u121, u122, u123, u124, u125, u126, u127, u128, u129, u130, u131, u132, u133, u134, u135, v136, v137, v138, v139, v140, v141, v142, v143, v144, v145, u146, u147, u148, u149, u150, u151, u152, u153, u154, u155, u156, u157, u158, u159, u160, u161, u162, u163, u164, u165, u166, u167, u168, u169, u170, u171, u172, u173, u174, u175, u176, u177, u178, u179, u180, u181, u182, u183, u184, u185, u186, u187, u188, u189, u190, u191, u192, u193, u194, u195, u196, u197, u198, u199, u200, u201, u202, u203, u204, u205, u206, u207, u208, u209, u210, u211, u212, u213, u214, u215, u216, u217, u218, u219, u220, u221, u222, u223, u224, u225, u226, u227, u228, u229, u230, u231, u232, u233, u234, u235, u236, u237, u238, u239, u240, u241, u242, u243, u244, u245, u246, u247, u248, u249, u250, u251, u252, u253, u254, u255, u256, u257, u258, u259, u260, u261, u262, u263, u264, u265, u266, u267, u268, u269, u270, u271, u272, u273, u274, u275], defers := [] } w') :
    (Code.region 32 (#[{ dst := some 136, op := Op.buildSlice 30 0 #[], type := 30, pos := "law.go:144", after := #[], guard := none }, { dst := some 137, op := Op.move (Operand.tmp 11), type := 30, pos := "law.go:144", after := #[], guard := none }, { dst := some 138, op := Op.move (Operand.tmp 17), type := 3, pos := "law.go:144", after := #[], guard := none }, { dst := some 139, op := Op.slice 30 (Operand.tmp 137) none (some (Operand.tmp 138)) none, type := 30, pos := "law.go:144", after := #[{ on := 1, ground := Ground.data }, { on := 2, ground := Ground.data }], guard := none }, { dst := some 140, op := Op.call { callee := Callee.builtin Builtin.append, args := #[Operand.tmp 136, Operand.tmp 139], argTypes := #[30, 30] }, type := 30, pos := "law.go:144", after := #[{ on := 0, ground := Ground.data }, { on := 3, ground := Ground.data }], guard := none }, { dst := some 141, op := Op.move (Operand.tmp 11), type := 30, pos := "law.go:144", after := #[], guard := none }, { dst := some 142, op := Op.move (Operand.tmp 17), type := 3, pos := "law.go:144", after := #[], guard := none }, { dst := some 143, op := Op.binOp BinOp.add 3 (Operand.tmp 142) (Operand.const (Value.int IntKind.i64 1)) 3, type := 3, pos := "law.go:144", after := #[{ on := 6, ground := Ground.data }], guard := none }, { dst := some 144, op := Op.slice 30 (Operand.tmp 141) (some (Operand.tmp 143)) none none, type := 30, pos := "law.go:144", after := #[{ on := 5, ground := Ground.data }, { on := 7, ground := Ground.data }], guard := none }, { dst := some 145, op := Op.call { callee := Callee.builtin Builtin.append, args := #[Operand.tmp 140, Operand.tmp 144], argTypes := #[30, 30] }, type := 30, pos := "law.go:144", after := #[{ on := 4, ground := Ground.data }, { on := 8, ground := Ground.data }, { on := 4, ground := Ground.chain }], guard := none }, { dst := some 11, op := Op.assign (Operand.tmp 145), type := 30, pos := "law.go:144", after := #[{ on := 9, ground := Ground.data }, { on := 9, ground := Ground.chain }, { on := 0, ground := Ground.phase }, { on := 1, ground := Ground.phase }, { on := 2, ground := Ground.phase }, { on := 3, ground := Ground.phase }, { on := 4, ground := Ground.phase }, { on := 5, ground := Ground.phase }, { on := 6, ground := Ground.phase }, { on := 7, ground := Ground.phase }, { on := 8, ground := Ground.phase }, { on := 9, ground := Ground.phase }], guard := none }] : Array Oper) true).wp Try.prog Q { tmps := #[u0, u1, u2, u3, u4, u5, u6, u7, u8, u9, u10, Value.slice (some adr) m cr, u12, u13, u14, u15, u16, Value.int IntKind.i64 (k : Nat), u18, u19, u20, u21, u22, u23, u24, u25, u26, u27, u28, u29, u30, u31, u32, u33, u34, u35, u36, u37, u38, u39, u40, u41, u42, u43, u44, u45, u46, u47, u48, u49, u50, u51, u52, u53, u54, u55, u56, u57, u58, u59, u60, u61, u62, u63, u64, u65, u66, u67, u68, u69, u70, u71, u72, u73, u74, u75, u76, u77, u78, u79, u80, u81, u82, u83, u84, u85, u86, u87, u88, u89, u90, u91, u92, u93, u94, u95, u96, u97, u98, u99, u100, u101, u102, u103, u104, u105, u106, u107, u108, u109, u110, u111, u112, u113, u114, u115, u116, u117, u118, u119, u120, u121, u122, u123, u124, u125, u126, u127, u128, u129, u130, u131, u132, u133, u134, u135, u136, u137, u138, u139, u140, u141, u142, u143, u144, u145, u146, u147, u148, u149, u150, u151, u152, u153, u154, u155, u156, u157, u158, u159, u160, u161, u162, u163, u164, u165, u166, u167, u168, u169, u170, u171, u172, u173, u174, u175, u176, u177, u178, u179, u180, u181, u182, u183, u184, u185, u186, u187, u188, u189, u190, u191, u192, u193, u194, u195, u196, u197, u198, u199, u200, u201, u202, u203, u204, u205, u206, u207, u208, u209, u210, u211, u212, u213, u214, u215, u216, u217, u218, u219, u220, u221, u222, u223, u224, u225, u226, u227, u228, u229, u230, u231, u232, u233, u234, u235, u236, u237, u238, u239, u240, u241, u242, u243, u244, u245, u246, u247, u248, u249, u250, u251, u252, u253, u254, u255, u256, u257, u258, u259, u260, u261, u262, u263, u264, u265, u266, u267, u268, u269, u270, u271, u272, u273, u274, u275], defers := [] } w := by
  have HQ := Lib.hid hQ
  have HPN := Lib.hid hpn
  clear hpn
  clear hQ
  obtain ⟨i5, hi5, z5a, z5b, z5c⟩ := info_parts info35b
  have hcap := h.caps.1
  obtain ⟨Wd, hWd⟩ : ∃ Wd : World, Wd = w.drew := ⟨_, rfl⟩
  have HM : Hid (Mid Wd N 35 1 (.slice (some adr) m cr) m (ks .u64 xs)) := Lib.hid (by rw [hWd]; exact h.onb (below_drew w))
  have HB : Hid (Below w.heap.size w Wd) := Lib.hid (by rw [hWd]; exact below_drew w)
  have HS : Hid (Wd.heap.size = w.heap.size) := Lib.hid (by rw [hWd]; rfl)
  have hxl : xs.length = m := by have := h.1; rw [ks_len] at this; omega
  have HXL := Lib.hid hxl
  clear hxl h
  dsimp only
  refine wp_region_K SX 0 (by kernel_rfl) ?_
  rw [← hWd]
  clear hWd
  obtain ⟨k1, hk1⟩ : ∃ k1, k1 = k + 1 := ⟨_, rfl⟩
  have hk1i : ((k : Nat) : Int) + 1 = (k1 : Nat) := by omega
  have hkc : k ≤ cr := by omega
  have hkm : k ≤ m := by omega
  have hkm1 : k1 ≤ m := by omega
  have hkc1 : k1 ≤ cr := by omega
  have k00 : (0 : Int) ≤ k := by omega
  have k10 : (0 : Int) ≤ k1 := by omega
  have hki : (k : Int) ≤ cr := by omega
  have hki1 : (k1 : Int) ≤ m := by omega
  have hki2 : (m : Int) ≤ cr := by omega
  have HK1 := Lib.hid hk1
  have hwr : IntKind.i64.wrap ((k1 : Nat) : Int) = (k1 : Nat) := IntWalk.i64_in _ (by omega)
  clear hk1
  have HRT : Hid (Reads Wd Wd.heap.size 1 (some adr) k (ks .u64 (xs.take k))) := Lib.hid (HM.out.readsv.front hkm)
  have HRD := Lib.hid (HM.out.readsv.cut hkm1 hcap)
  have HX : Hid (ks .u64 (xs.eraseIdx k) = ks .u64 (xs.take k) ++ (ks .u64 xs).drop (k1 * 1)) := Lib.hid (by
    rw [List.eraseIdx_eq_take_drop_succ, ks_append, HK1.out, Nat.mul_one]
    unfold ks
    rw [List.map_drop])
  have HM2 : Hid (k + (m - k1) = m2) := Lib.hid (by have := HK1.out; omega)
  have HME : Hid (Mid (Wd.alloc (.cells #[] 35)) Wd.heap.size 35 1 (.slice (some ⟨Wd.heap.size, 0, none⟩) 0 0) 0 []) := Lib.hid ⟨rfl, .inr ⟨_, 0, 0, #[], rfl, Nat.le_refl _, heap_alloc_new Wd _, Nat.le_refl _, Nat.zero_le _, by simp, rfl⟩⟩
  refine wpAnyK_pure (i := 1) (oi := _) (v := ?_) (by rfl) (by kernel_rfl) (fun c a w h => HPN.out c a _ _ w h) (Or.inl ⟨by rfl, ?_⟩) ?_
  rotate_left 1
  · intro w' _
    go_simp
    all_goals with_reducible rfl
  simp only [Act.put, List.getElem_toArray, List.getElem_cons_zero, List.getElem_cons_succ, List.setIfInBounds_toArray, List.set_cons_zero, List.set_cons_succ]
  refine wpAnyK_pure (i := 2) (oi := _) (v := ?_) (by rfl) (by kernel_rfl) (fun c a w h => HPN.out c a _ _ w h) (Or.inl ⟨by rfl, ?_⟩) ?_
  rotate_left 1
  · intro w' _
    go_simp
    all_goals with_reducible rfl
  simp only [Act.put, List.getElem_toArray, List.getElem_cons_zero, List.getElem_cons_succ, List.setIfInBounds_toArray, List.set_cons_zero, List.set_cons_succ]
  refine wpAnyK_pure (i := 3) (oi := _) (v := ?_) (by rfl) (by kernel_rfl) (fun c a w h => HPN.out c a _ _ w h) (Or.inl ⟨by rfl, ?_⟩) ?_
  rotate_left 1
  · intro w' _
    go_simp
    all_goals with_reducible rfl
  simp only [Act.put, List.getElem_toArray, List.getElem_cons_zero, List.getElem_cons_succ, List.setIfInBounds_toArray, List.set_cons_zero, List.set_cons_succ]
  refine wpAnyK_pure (i := 5) (oi := _) (v := ?_) (by rfl) (by kernel_rfl) (fun c a w h => HPN.out c a _ _ w h) (Or.inl ⟨by rfl, ?_⟩) ?_
  rotate_left 1
  · intro w' _
    go_simp
    all_goals with_reducible rfl
  simp only [Act.put, List.getElem_toArray, List.getElem_cons_zero, List.getElem_cons_succ, List.setIfInBounds_toArray, List.set_cons_zero, List.set_cons_succ]
  refine wpAnyK_pure (i := 6) (oi := _) (v := ?_) (by rfl) (by kernel_rfl) (fun c a w h => HPN.out c a _ _ w h) (Or.inl ⟨by rfl, ?_⟩) ?_
  rotate_left 1
  · intro w' _
    go_simp
    all_goals with_reducible rfl
  simp only [Act.put, List.getElem_toArray, List.getElem_cons_zero, List.getElem_cons_succ, List.setIfInBounds_toArray, List.set_cons_zero, List.set_cons_succ]
  refine wpAnyK_pure (i := 7) (oi := _) (v := ?_) (by rfl) (by kernel_rfl) (fun c a w h => HPN.out c a _ _ w h) (Or.inl ⟨by rfl, ?_⟩) ?_
  rotate_left 1
  · intro w' _
    go_simp
    all_goals with_reducible rfl
  simp only [Act.put, List.getElem_toArray, List.getElem_cons_zero, List.getElem_cons_succ, List.setIfInBounds_toArray, List.set_cons_zero, List.set_cons_succ]

  generalize hAD : (if cr = k1 then (some adr) else (some adr).map (·.add (k1 * 1))) = AD at HRD
  have HAD : Hid ((if cr = k1 then (some adr : Option Addr) else some (adr.add k1)) = AD) := Lib.hid (by rw [← hAD, Nat.mul_one]; rfl)
  clear hAD
  refine wpAnyK_pure (i := 8) (oi := _) (v := ?_) (by rfl) (by kernel_rfl) (fun c a w h => HPN.out c a _ _ w h) (Or.inl ⟨by rfl, ?_⟩) ?_
  rotate_left 1
  · intro w' _
    go_simp
    all_goals with_reducible rfl
  simp only [Act.put, List.getElem_toArray, List.getElem_cons_zero, List.getElem_cons_succ, List.setIfInBounds_toArray, List.set_cons_zero, List.set_cons_succ]
  try rw [HAD.out]
  refine wpAnyK_all (rs := [0]) (by kernel_rfl) (by simp) ?_
  intro ix hix
  simp only [List.mem_cons, List.not_mem_nil, or_false] at hix
  subst hix
  refine wpK_op (o := _) (by rfl) (fun K hK => ?_)
  refine step_build0 30 35 (run_b30 _) (by rfl) (by rfl) ?_
  refine hK _ _ (fun _ _ => trivial) ?_
  clear hK K
  try simp only [Act.put, List.getElem_toArray, List.getElem_cons_zero, List.getElem_cons_succ, List.setIfInBounds_toArray, List.set_cons_zero, List.set_cons_succ]
  refine wpAnyK_all (rs := [4]) (by kernel_rfl) (by simp) ?_
  intro ix hix
  simp only [List.mem_cons, List.not_mem_nil, or_false] at hix
  subst hix
  refine wpK_op (o := _) (by rfl) (fun K hK => ?_)
  refine step_append_src (by rfl) _ _ _ (by rfl) Wd.heap.size 35 i5 _ 1 8 Try.underlying30 hi5 z5a z5b z5c rfl (by omega) (.slice (some ⟨Wd.heap.size, 0, none⟩) 0 0) 0 [] (by rfl) HME.out Wd.heap.size (some adr) k _ (ks .u64 (xs.take k)) (by rfl) (HRT.out.below (below_alloc Wd _)) (ks_one _ _) (by unfold maxLen; omega) (by omega) (by simp) ?_
  intro v9 w9 hmm hran
  rw [Nat.zero_add, List.nil_append] at hmm
  have HM9 := Lib.hid hmm
  have HB9 : Hid (Below Wd.heap.size Wd w9) := Lib.hid ((below_alloc Wd (.cells #[] 35)).grown hran.grown (by simp) (fun g hg => (HME.out.lt g hg).1))
  clear hmm hran
  refine hK _ _ (fun _ _ => trivial) ?_
  clear hK K
  try simp only [Act.put, List.getElem_toArray, List.getElem_cons_zero, List.getElem_cons_succ, List.setIfInBounds_toArray, List.set_cons_zero, List.set_cons_succ]
  refine wpAnyK_all (rs := [9]) (by kernel_rfl) (by simp) ?_
  intro ix hix
  simp only [List.mem_cons, List.not_mem_nil, or_false] at hix
  subst hix
  refine wpK_op (o := _) (by rfl) (fun K hK => ?_)
  refine step_append_src (by rfl) _ _ _ (by rfl) Wd.heap.size 35 i5 _ 1 8 Try.underlying30 hi5 z5a z5b z5c rfl (by omega) v9 k (ks .u64 (xs.take k)) (by rfl) HM9.out Wd.heap.size AD (m - k1) _ ((ks .u64 xs).drop (k1 * 1)) (by rfl) (HRD.out.below HB9.out) (fun u hu => ks_one .u64 xs u (List.mem_of_mem_drop hu)) (by unfold maxLen; omega) (by omega) HB9.out.size ?_
  intro v8 w8 hmm hran
  rw [← HX.out, HM2.out] at hmm
  have HM8 := Lib.hid hmm
  have HB8 : Hid (Below Wd.heap.size Wd w8) := Lib.hid (HB9.out.grown hran.grown HB9.out.size (fun g hg => (HM9.out.lt g hg).1))
  clear hmm hran
  obtain ⟨A8, c8, e8⟩ := HM8.out.form
  subst e8
  refine hK _ _ (fun _ _ => trivial) ?_
  clear hK K
  try simp only [Act.put, List.getElem_toArray, List.getElem_cons_zero, List.getElem_cons_succ, List.setIfInBounds_toArray, List.set_cons_zero, List.set_cons_succ]
  refine wpAnyK_all (rs := [10]) (by kernel_rfl) (by simp) ?_
  intro ix hix
  simp only [List.mem_cons, List.not_mem_nil, or_false] at hix
  subst hix
  refine wpK_op (o := _) (by rfl) (fun K hK => ?_)
  go_simp
  refine hK _ _ (fun _ _ => trivial) ?_
  clear hK K
  try simp only [Act.put, List.getElem_toArray, List.getElem_cons_zero, List.getElem_cons_succ, List.setIfInBounds_toArray, List.set_cons_zero, List.set_cons_succ]
  refine wpAnyK_done (by kernel_rfl) ?_ _
  have hb8 := HB8.out
  have hm8 := HM8.out
  rw [HS.out] at hb8 hm8
  exact HQ.out _ _ _ _ _ _ _ _ _ _ A8 c8 w8 (HB.out.trans hb8) hm8
end Go.Proofs.Ytndmpdpmfieacaa

namespace Go.Proofs.Ytndmpdpmfieacaa
open Go.RowKit Go.WideShapes Go.ChangeShapes
set_option linter.all false
set_option maxRecDepth 100000 in
set_option maxHeartbeats 6400000 in
theorem reg36 {w : World} {n' c' B k m j cr cv : Nat} {adq adr adv : Addr} {ref x was : Int} {R : Bool → World → Prop} {u0 u2 u3 u4 u5 u6 u8 u10 u13 u14 u15 u16 u17 u19 u20 u21 u22 u23 u24 u25 u26 u27 u28 u29 u30 u31 u32 u33 u34 u35 u36 u37 u38 u39 u40 u41 u42 u43 u44 u45 u46 u47 u48 u49 u50 u51 u52 u53 u54 u55 u56 u57 u58 u59 u60 u61 u62 u63 u64 u65 u66 u67 u68 u69 u70 u71 u72 u73 u74 u75 u76 u77 u78 u79 u80 u81 u82 u83 u84 u85 u86 u87 u88 u89 u90 u91 u92 u93 u94 u95 u96 u97 u98 u99 u100 u101 u102 u103 u104 u105 u106 u107 u108 u109 u110 u111 u112 u113 u114 u115 u116 u117 u118 u119 u120 u121 u122 u123 u124 u125 u126 u127 u128 u129 u130 u131 u132 u133 u134 u135 u136 u137 u138 u139 u140 u141 u142 u143 u144 u145 u146 u147 u148 u149 u150 u151 u152 u153 u154 u155 u156 u157 u158 u159 u160 u161 u162 u163 u164 u165 u166 u167 u168 u169 u170 u171 u172 u173 u174 u175 u176 u177 u178 u179 u180 u181 u182 u183 u184 u185 u186 u187 u188 u189 u190 u191 u192 u193 u194 u195 u196 u197 u198 u199 u200 u201 u202 u203 u204 u205 u206 u207 u208 u209 u210 u211 u212 u213 u214 u215 u216 u217 u218 u219 u220 u221 u222 u223 u224 u225 u226 u227 u228 u229 u230 u231 u232 u233 u234 u235 u236 u237 u238 u239 u240 u241 u242 u243 u244 u245 u246 u247 u248 u249 u250 u251 u252 u253 u254 u255 u256 u257 u258 u259 u260 u261 u262 u263 u264 u265 u266 u267 u268 u269 u270 u271 u272 u273 u274 u275 : Value} {Q : Exit → Act → World → Prop}
    (hl1 : j < n') (hkm : k < m) (hm4 : m ≤ 4) (hj6 : j < 60)
    (hcb : w.cell? (adr.add k) = some (.int .i64 ref) ∧ w.cell? (adv.add k) = some (.int .u64 x) ∧ w.cell? ⟨(adq.add (j * 7)).block, (adq.add (j * 7)).off + 4, none⟩ = some (.int .u64 was))
    (hsw : ∀ (W : World) (g : Nat), Below w.heap.size w W → W.heap[g]? = some (.cells #[.int .u64 (1000 + (j : Nat))] 35 (0, 0)) → w.heap.size ≤ g → Calls Try.prog 17 #[.pointer (some ⟨B, 0, none⟩), .int .i64 ref, .int .u64 (IntKind.u64.wrap (x + Int.tmod was 2)), .slice (some ⟨g, 0, none⟩) 1 1] W fun e w' => ∃ b, e = .returned (.tuple #[.bool b, .int .i64 0]) ∧ R b w')
    (hR : ∀ b W', R b W' → W'.cell? (adr.add k) = some (.int .i64 ref) ∧ W'.cell? (adv.add k) = some (.int .u64 x) ∧ W'.cell? ⟨(adq.add (j * 7)).block, (adq.add (j * 7)).off + 4, none⟩ = some (.int .u64 was))
    (hQ : ∀ (v160 v161 v162 v163 v164 v165 v166 v167 v168 v169 v170 v171 v172 v173 v174 v175 v176 v177 v178 v179 v180 v181 v182 v183 : Value) (b : Bool) (w' : World), R b w' → Q .normal { tmps := #[u0, Value.slice (some adq) n' c', u2, u3, u4, u5, u6, Value.pointer (some ⟨B, 0, none⟩), u8, Value.slice (some adr) m cr, u10, Value.slice (some adv) m cv, Value.int IntKind.i64 (j : Nat), u13, u14, u15, u16, u17, Value.int IntKind.i64 (k : Nat), Value.bool b, Value.int IntKind.i64 0, u21, u22, u23, u24, u25, u26, u27, u28, u29, u30, u31, u32, u33, u34, u35, u36, u37, u38, u39, u40, u41, u42, u43, u44, u45, u46, u47, u48, u49, u50, u51, u52, u53, u54, u55, u56, u57, u58, u59, u60, u61, u62, u63, u64, u65, u66, u67, u68, u69, u70, u71, u72, u73, u74, u75, u76, u77, u78, u79, u80, u81, u82, u83, u84, u85, u86, u87, u88, u89, u90, u91, u92, u93, u94, u95, u96, u97, u98, u99, u100, u101, u102, u103, u104, u105, u106, u107, u108, u109, u110, u111, u112, u113, u114, u115, u116, u117, u118, u119, u120, u121, u122, u123, u124, u125, u126, u127, u128, u129, u130, u131, u132, u133, u134, u135, u136, u137, u138, u139, u140, u141, u142, u143, u144, u145, u146, u147, u148, u149, u150, u151, u152, u153, u154, u155, u156, u157, u158, u159, v160, v161, v162, v163, v164, v165, v166, v167, v168, v169, v170, v171, v172, v173, v174, v175, v176, v177, v178, v179, v180, v181, v182, v183, u184, u185, u186, u187, u188, u189, u190, u191, u192, u193, u194, u195, u196, u197, u198, u199, u200, u201, u202, u203, u204, u205, u206, u207, u208, u209, u210, u211, u212, u213, u214, u215, u216, u217, u218, u219, u220, u221, u222, u223, u224, u225, u226, u227, u228, u229, u230, u231, u232, u233, u234, u235, u236, u237, u238, u239, u240, u241, u242, u243, u244, u245, u246, u247, u248, u249, u250, u251, u252, u253, u254, u255, u256, u257, u258, u259, u260, u261, u262, u263, u264, u265, u266, u267, u268, u269, u270, u271, u272, u273, u274, u275], defers := [] } w') :
    (Code.region 36 (#[{ dst := some 161, op := Op.move (Operand.tmp 7), type := 24, pos := "law.go:149", after := #[], guard := none }, { dst := some 162, op := Op.move (Operand.tmp 9), type := 45, pos := "law.go:149", after := #[], guard := none }, { dst := some 163, op := Op.move (Operand.tmp 18), type := 3, pos := "law.go:149", after := #[], guard := none }, { dst := some 164, op := Op.indexAddr 45 (Operand.tmp 162) (Operand.tmp 163), type := 0, pos := "law.go:149", after := #[{ on := 1, ground := Ground.data }, { on := 2, ground := Ground.data }], guard := none }, { dst := some 165, op := Op.load 3 (Operand.tmp 164), type := 3, pos := "law.go:149", after := #[{ on := 3, ground := Ground.data }], guard := none }, { dst := some 166, op := Op.move (Operand.tmp 11), type := 30, pos := "law.go:149", after := #[], guard := none }, { dst := some 167, op := Op.move (Operand.tmp 18), type := 3, pos := "law.go:149", after := #[], guard := none }, { dst := some 168, op := Op.indexAddr 30 (Operand.tmp 166) (Operand.tmp 167), type := 0, pos := "law.go:149", after := #[{ on := 5, ground := Ground.data }, { on := 6, ground := Ground.data }], guard := none }, { dst := some 169, op := Op.load 35 (Operand.tmp 168), type := 35, pos := "law.go:149", after := #[{ on := 7, ground := Ground.data }], guard := none }, { dst := some 170, op := Op.move (Operand.tmp 1), type := 48, pos := "law.go:149", after := #[], guard := none }, { dst := some 171, op := Op.move (Operand.tmp 12), type := 3, pos := "law.go:149", after := #[], guard := none }, { dst := some 172, op := Op.indexAddr 48 (Operand.tmp 170) (Operand.tmp 171), type := 0, pos := "law.go:149", after := #[{ on := 9, ground := Ground.data }, { on := 10, ground := Ground.data }], guard := none }, { dst := some 173, op := Op.fieldAddr 50 (Operand.tmp 172) 4, type := 0, pos := "law.go:149", after := #[{ on := 11, ground := Ground.data }], guard := none }, { dst := some 174, op := Op.load 35 (Operand.tmp 173), type := 35, pos := "law.go:149", after := #[{ on := 12, ground := Ground.data }], guard := none }, { dst := some 175, op := Op.binOp BinOp.rem 35 (Operand.tmp 174) (Operand.const (Value.int IntKind.u64 2)) 35, type := 35, pos := "law.go:149", after := #[{ on := 13, ground := Ground.data }], guard := none }, { dst := some 176, op := Op.binOp BinOp.add 35 (Operand.tmp 169) (Operand.tmp 175) 35, type := 35, pos := "law.go:149", after := #[{ on := 8, ground := Ground.data }, { on := 14, ground := Ground.data }], guard := none }, { dst := some 177, op := Op.move (Operand.tmp 12), type := 3, pos := "law.go:149", after := #[], guard := none }, { dst := some 178, op := Op.binOp BinOp.add 3 (Operand.const (Value.int IntKind.i64 1000)) (Operand.tmp 177) 3, type := 3, pos := "law.go:149", after := #[{ on := 16, ground := Ground.data }], guard := none }, { dst := some 179, op := Op.convert 3 35 (Operand.tmp 178), type := 35, pos := "law.go:149", after := #[{ on := 17, ground := Ground.data }], guard := none }, { dst := some 180, op := Op.buildSlice 30 1 #[(0, Operand.tmp 179)], type := 30, pos := "law.go:149", after := #[{ on := 18, ground := Ground.data }], guard := none }, { dst := some 181, op := Op.call { callee := Callee.value (Operand.func 17), args := #[Operand.tmp 161, Operand.tmp 165, Operand.tmp 176, Operand.tmp 180], argTypes := #[24, 3, 35, 30] }, type := 33, pos := "law.go:149", after := #[{ on := 0, ground := Ground.data }, { on := 4, ground := Ground.data }, { on := 15, ground := Ground.data }, { on := 19, ground := Ground.data }], guard := none }, { dst := some 160, op := Op.move (Operand.tmp 181), type := 33, pos := "law.go:149", after := #[{ on := 20, ground := Ground.data }], guard := none }, { dst := some 182, op := Op.extract (Operand.tmp 160) 0, type := 4, pos := "law.go:149", after := #[{ on := 21, ground := Ground.data }], guard := none }, { dst := some 183, op := Op.extract (Operand.tmp 160) 1, type := 25, pos := "law.go:149", after := #[{ on := 21, ground := Ground.data }, { on := 24, ground := Ground.gcOnly Departure.lateStores }], guard := none }, { dst := some 19, op := Op.assign (Operand.tmp 182), type := 4, pos := "law.go:149", after := #[{ on := 22, ground := Ground.data }, { on := 20, ground := Ground.chain }, { on := 0, ground := Ground.phase }, { on := 1, ground := Ground.phase }, { on := 2, ground := Ground.phase }, { on := 3, ground := Ground.phase }, { on := 4, ground := Ground.phase }, { on := 5, ground := Ground.phase }, { on := 6, ground := Ground.phase }, { on := 7, ground := Ground.phase }, { on := 8, ground := Ground.phase }, { on := 9, ground := Ground.phase }, { on := 10, ground := Ground.phase }, { on := 11, ground := Ground.phase }, { on := 12, ground := Ground.phase }, { on := 13, ground := Ground.phase }, { on := 14, ground := Ground.phase }, { on := 15, ground := Ground.phase }, { on := 16, ground := Ground.phase }, { on := 17, ground := Ground.phase }, { on := 18, ground := Ground.phase }, { on := 19, ground := Ground.phase }, { on := 20, ground := Ground.phase }, { on := 21, ground := Ground.phase }, { on := 22, ground := Ground.phase }, { on := 23, ground := Ground.textOnly Departure.lateStores }], guard := none }, { dst := some 20, op := Op.assign (Operand.tmp 183), type := 25, pos := "law.go:149", after := #[{ on := 23, ground := Ground.data }, { on := 24, ground := Ground.chain }, { on := 0, ground := Ground.phase }, { on := 1, ground := Ground.phase }, { on := 2, ground := Ground.phase }, { on := 3, ground := Ground.phase }, { on := 4, ground := Ground.phase }, { on := 5, ground := Ground.phase }, { on := 6, ground := Ground.phase }, { on := 7, ground := Ground.phase }, { on := 8, ground := Ground.phase }, { on := 9, ground := Ground.phase }, { on := 10, ground := Ground.phase }, { on := 11, ground := Ground.phase }, { on := 12, ground := Ground.phase }, { on := 13, ground := Ground.phase }, { on := 14, ground := Ground.phase }, { on := 15, ground := Ground.phase }, { on := 16, ground := Ground.phase }, { on := 17, ground := Ground.phase }, { on := 18, ground := Ground.phase }, { on := 19, ground := Ground.phase }, { on := 20, ground := Ground.phase }, { on := 21, ground := Ground.phase }, { on := 22, ground := Ground.phase }, { on := 23, ground := Ground.phase }, { on := 24, ground := Ground.phase }], guard := none }] : Array Oper) true).wp Try.prog Q { tmps := #[u0, Value.slice (some adq) n' c', u2, u3, u4, u5, u6, Value.pointer (some ⟨B, 0, none⟩), u8, Value.slice (some adr) m cr, u10, Value.slice (some adv) m cv, Value.int IntKind.i64 (j : Nat), u13, u14, u15, u16, u17, Value.int IntKind.i64 (k : Nat), u19, u20, u21, u22, u23, u24, u25, u26, u27, u28, u29, u30, u31, u32, u33, u34, u35, u36, u37, u38, u39, u40, u41, u42, u43, u44, u45, u46, u47, u48, u49, u50, u51, u52, u53, u54, u55, u56, u57, u58, u59, u60, u61, u62, u63, u64, u65, u66, u67, u68, u69, u70, u71, u72, u73, u74, u75, u76, u77, u78, u79, u80, u81, u82, u83, u84, u85, u86, u87, u88, u89, u90, u91, u92, u93, u94, u95, u96, u97, u98, u99, u100, u101, u102, u103, u104, u105, u106, u107, u108, u109, u110, u111, u112, u113, u114, u115, u116, u117, u118, u119, u120, u121, u122, u123, u124, u125, u126, u127, u128, u129, u130, u131, u132, u133, u134, u135, u136, u137, u138, u139, u140, u141, u142, u143, u144, u145, u146, u147, u148, u149, u150, u151, u152, u153, u154, u155, u156, u157, u158, u159, u160, u161, u162, u163, u164, u165, u166, u167, u168, u169, u170, u171, u172, u173, u174, u175, u176, u177, u178, u179, u180, u181, u182, u183, u184, u185, u186, u187, u188, u189, u190, u191, u192, u193, u194, u195, u196, u197, u198, u199, u200, u201, u202, u203, u204, u205, u206, u207, u208, u209, u210, u211, u212, u213, u214, u215, u216, u217, u218, u219, u220, u221, u222, u223, u224, u225, u226, u227, u228, u229, u230, u231, u232, u233, u234, u235, u236, u237, u238, u239, u240, u241, u242, u243, u244, u245, u246, u247, u248, u249, u250, u251, u252, u253, u254, u255, u256, u257, u258, u259, u260, u261, u262, u263, u264, u265, u266, u267, u268, u269, u270, u271, u272, u273, u274, u275], defers := [] } w := by
  have HQ := Lib.hid hQ
  have HSW := Lib.hid hsw
  have HCR := Lib.hid hR
  have hB := (⟨World.block_lt_of_cell? _ _ hcb.1, World.block_lt_of_cell? _ _ hcb.2.1, World.block_lt_of_cell? _ _ hcb.2.2⟩ : (adr.add k).block < w.heap.size ∧ (adv.add k).block < w.heap.size ∧ _)
  obtain ⟨px, py, pf⟩ := hcb
  have HP := Lib.hid (⟨px, py, pf⟩ : w.cell? (adr.add k) = some (.int .i64 ref) ∧ w.cell? (adv.add k) = some (.int .u64 x) ∧ w.cell? ⟨(adq.add (j * 7)).block, (adq.add (j * 7)).off + 4, none⟩ = some (.int .u64 was))
  have k00 : (0 : Int) ≤ k := by omega
  have j0 : (0 : Int) ≤ j := by omega
  have hkmi : (k : Int) < m := by omega
  have hji : (j : Int) < n' := by omega
  have hwr : IntKind.i64.wrap (1000 + ((j : Nat) : Int)) = 1000 + (j : Nat) := IntWalk.i64_in _ (by omega)
  have hwu : IntKind.u64.wrap (1000 + ((j : Nat) : Int)) = 1000 + (j : Nat) := by rw [IntKind.wrap_u64]; omega
  clear hQ hsw hR
  dsimp only
  go_region_held3 (fun W' => W'.cell? (adr.add k) = some (.int .i64 ref) ∧ W'.cell? (adv.add k) = some (.int .u64 x) ∧ W'.cell? ⟨(adq.add (j * 7)).block, (adq.add (j * 7)).off + 4, none⟩ = some (.int .u64 was)) (first | (go_keep; done) | exact ⟨px, py, pf⟩ | exact HCR.out _ _ HRB.out) (first
    | (go_at_call 17; refine (HSW.out _ _ ((below_alloc _ _).trans ((below_drew _).mono (below_alloc _ _).size)) (heap_alloc_new w _) (Nat.le_refl _)).mono ?_
       rintro e w5 ⟨b, rfl, hr⟩
       have HRB := Lib.hid hr
       clear hr)
    | fail)
  all_goals
    exact HQ.out _ _ _ _ _ _ _ _ _ _ _ _ _ _ _ _ _ _ _ _ _ _ _ _ _ _ HRB.out
end Go.Proofs.Ytndmpdpmfieacaa

namespace Go.Proofs.Ytndmpdpmfieacaa
open Go.RowKit Go.WideShapes Go.ChangeShapes Go.ChangeAt Go.Deep
set_option linter.all false
/-- One ask: four numbers, a word, a truth value, words. -/
structure AskE where
  F : Nat → Int
  ft : Bool
  A : Option Addr
  n : Nat
  c : Nat
  xs : List Int
def dAsk : AskE := ⟨fun _ => 0, false, none, 0, 0, []⟩
structure AskAt (W : World) (ad : Addr) (i : Nat) (e : AskE) : Prop where
  nums : ∀ j, j < 4 → W.cell? (ad.add (i * 7 + j)) = some (.int .i64 (e.F j))
  was : W.cell? (ad.add (i * 7 + 4)) = some (.int .u64 (e.F 4))
  fits : W.cell? (ad.add (i * 7 + 5)) = some (.bool e.ft)
  words : W.cell? (ad.add (i * 7 + 6)) = some (.slice e.A e.n e.c)
  le : e.n ≤ e.c ∧ e.c ≤ maxLen
  reads : Reads W W.heap.size 1 e.A e.n (wv e.xs)
def Asks7 (W : World) (A : Option Addr) (len : Nat) (E : Nat → AskE) : Prop :=
  ∀ i, i < len → ∃ ad, A = some ad ∧ ad.block < W.heap.size ∧ AskAt W ad i (E i)
section
variable {H : Type} {enc : TypeId × Value → H}
set_option maxRecDepth 100000 in
theorem open_asks7 {W : World} {v : Value} {d : DataW H} {pl : List MemPlace} {base : Nat}
    (hok : Value.okWide Try.prog W .any base 48 v) (h : DataW.Trod enc Try.prog W 0 (fun _ => true) true 48 v d pl) :
    ∃ A len cap E, v = .slice A len cap ∧ Asks7 W A len E ∧ len ≤ cap ∧ cap ≤ maxLen := by
  obtain ⟨a0, len, cap, rfl⟩ := okWide_slice Try.underlying48 hok
  obtain ⟨fuel, hf⟩ := h
  have hC : Try.prog.cellsOf 50 = 7 := by kernel_rfl
  rcases open_slice Try.underlying48 hf with ⟨hcs, hx⟩ | ⟨a, len', cap', m, n, D, Pl, hcs, _, hl, hm, hmm, hx, hi⟩
  · simp [Value.cells] at hcs
    obtain ⟨rfl, rfl, rfl⟩ := hcs
    exact ⟨none, 0, 0, fun _ => dAsk, rfl, fun i hi => absurd hi (by omega), Nat.le_refl _, Nat.zero_le _⟩
  · simp [Value.cells] at hcs
    obtain ⟨rfl, rfl, rfl⟩ := hcs
    simp only [if_true] at hmm
    have key : ∀ i, i < len → ∃ e, AskAt W a i e := by
      intro i hil
      obtain ⟨cs', hc, ht'⟩ := hi i (by omega)
      rw [hC] at hc
      obtain ⟨ys, n', _, _, hlen, hyl, hfd⟩ := DataW.trod_struct Try.underlying50 ht'
      rw [hC] at hlen
      obtain ⟨_, _, hat⟩ := World.cells?_some hc
      have c3 : Try.prog.cellsOf 3 = 1 := by kernel_rfl
      have c35 : Try.prog.cellsOf 35 = 1 := by kernel_rfl
      have c4 : Try.prog.cellsOf 4 = 1 := by kernel_rfl
      have c30 : Try.prog.cellsOf 30 = 1 := by kernel_rfl
      obtain ⟨u0, u1, u2, u3, u4, u5, u6, rfl⟩ : ∃ u0 u1 u2 u3 u4 u5 u6, cs' = [u0, u1, u2, u3, u4, u5, u6] := by
        match cs', hlen with
        | [u0, u1, u2, u3, u4, u5, u6], _ => exact ⟨u0, u1, u2, u3, u4, u5, u6, rfl⟩
      have g0 := hfd 0 { name := "Kind", type := 3, offset := 0, embedded := false, tag := "", pkgPath := "", byteOffset := 0 } rfl
      have g1 := hfd 1 { name := "Class", type := 3, offset := 1, embedded := false, tag := "", pkgPath := "", byteOffset := 8 } rfl
      have g2 := hfd 2 { name := "N", type := 3, offset := 2, embedded := false, tag := "", pkgPath := "", byteOffset := 16 } rfl
      have g3 := hfd 3 { name := "Ref", type := 3, offset := 3, embedded := false, tag := "", pkgPath := "", byteOffset := 24 } rfl
      have g4 := hfd 4 { name := "Was", type := 35, offset := 4, embedded := false, tag := "", pkgPath := "", byteOffset := 32 } rfl
      have g5 := hfd 5 { name := "Fits", type := 4, offset := 5, embedded := false, tag := "", pkgPath := "", byteOffset := 40 } rfl
      have g6 := hfd 6 { name := "Words", type := 30, offset := 6, embedded := false, tag := "", pkgPath := "", byteOffset := 48 } rfl
      simp only [c3, c35, c4, c30, List.drop_zero, List.drop_succ_cons, List.take_succ_cons, List.take_zero] at g0 g1 g2 g3 g4 g5 g6
      have hy7 : ys.length = 7 := hyl
      rw [List.getElem?_eq_getElem (by omega)] at g0
      rw [List.getElem?_eq_getElem (by omega)] at g1
      rw [List.getElem?_eq_getElem (by omega)] at g2
      rw [List.getElem?_eq_getElem (by omega)] at g3
      rw [List.getElem?_eq_getElem (by omega)] at g4
      rw [List.getElem?_eq_getElem (by omega)] at g5
      rw [List.getElem?_eq_getElem (by omega)] at g6
      obtain ⟨z0, e0, _⟩ := DataW.trod_int Try.underlying3 g0
      obtain ⟨z1, e1, _⟩ := DataW.trod_int Try.underlying3 g1
      obtain ⟨z2, e2, _⟩ := DataW.trod_int Try.underlying3 g2
      obtain ⟨z3, e3, _⟩ := DataW.trod_int Try.underlying3 g3
      obtain ⟨z4, e4, _⟩ := DataW.trod_int Try.underlying35 g4
      obtain ⟨b5, e5, _⟩ := DataW.trod_bool Try.underlying4 g5
      simp only [List.cons.injEq, and_true] at e0 e1 e2 e3 e4 e5
      have hA : ∀ j v, [u0, u1, u2, u3, u4, u5, u6][j]? = some v → W.cell? (a.add (i * 7 + j)) = some v := fun j v hj => by
        have hj7 : j < 7 := by
          rcases Nat.lt_or_ge j 7 with h | h
          · exact h
          · rw [List.getElem?_eq_none (by simpa using h)] at hj; cases hj
        rw [← Go.Deep.add_add]
        have := hat j hj7
        rw [hj] at this
        exact this
      have hw : ∃ A n c xs, u6 = .slice A n c ∧ n ≤ c ∧ c ≤ maxLen ∧ Reads W W.heap.size 1 A n (wv xs) := by
        rcases open_ints Try.underlying30 Try.underlying35 c35 g6 with ⟨e6, _⟩ | ⟨b, l6, k6, zs, e6, _, hl6, hm6, hz, _, hcell, hwz⟩
        · injection e6 with e6
          exact ⟨none, 0, 0, [], e6, Nat.le_refl _, Nat.zero_le _, Reads.none_⟩
        · injection e6 with e6
          simp only [if_true] at hz
          refine ⟨some b, l6, k6, zs.take l6, e6, hl6, hm6, ⟨by simp [wv]; omega, fun hn => ⟨b, rfl, ?_, fun j u hu => ?_⟩⟩⟩
          · have := blk_lt (hcell 0 (by omega))
            rw [block_of_add] at this; exact this
          · unfold wv at hu
            rw [List.getElem?_map] at hu
            have hj : j < l6 := by
              rcases Nat.lt_or_ge j l6 with h | h
              · exact h
              · rw [List.getElem?_eq_none (by simp; omega)] at hu; cases hu
            rw [List.getElem?_take, if_pos hj, List.getElem?_eq_getElem (by omega)] at hu
            injection hu with hu
            rw [hcell j (by omega), ← hu, List.getD_eq_getElem?_getD, List.getElem?_eq_getElem (by omega)]; rfl
      obtain ⟨wA, wn, wc, wx, e6, h6, h7, h8⟩ := hw
      refine ⟨⟨fun j => if j = 0 then z0 else if j = 1 then z1 else if j = 2 then z2 else if j = 3 then z3 else z4, b5, wA, wn, wc, wx⟩, ⟨fun j hj => ?_, ?_, ?_, ?_, ⟨h6, h7⟩, h8⟩⟩
      · have : j = 0 ∨ j = 1 ∨ j = 2 ∨ j = 3 := by omega
        rcases this with rfl | rfl | rfl | rfl
        · exact hA 0 _ (by rw [e0]; rfl)
        · exact hA 1 _ (by rw [e1]; rfl)
        · exact hA 2 _ (by rw [e2]; rfl)
        · exact hA 3 _ (by rw [e3]; rfl)
      · exact hA 4 _ (by rw [e4]; rfl)
      · exact hA 5 _ (by rw [e5]; rfl)
      · exact hA 6 _ (by rw [e6]; rfl)
    refine ⟨some a, len, cap, fun i => if h : i < len then Classical.choose (key i h) else dAsk, rfl, fun i hil => ⟨a, rfl, ?_, ?_⟩, hl, hm⟩
    · obtain ⟨e, he⟩ := key i hil
      have := blk_lt he.was
      rw [block_of_add] at this; exact this
    · simp only [dif_pos hil]
      exact Classical.choose_spec (key i hil)
end
theorem Asks7.asks {W : World} {A : Option Addr} {len : Nat} {E : Nat → AskE} (h : Asks7 W A len E) : Asks W A len fun i j => (E i).F j := fun i hi => by
  obtain ⟨ad, e, hb, ha⟩ := h i hi
  exact ⟨ad, e, hb, ha.nums 0 (by omega), ha.nums 3 (by omega), ha.was⟩
end Go.Proofs.Ytndmpdpmfieacaa
