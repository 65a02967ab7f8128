/-
  The chapter's runs; the document's insert and Terms; conditions: lengths.
-/
import Derived.Test.YtoffibcplbfokaaTk3
import Derived.BigFrame
import Derived.ArgAppend
namespace Go.Proofs.Ytoffibcplbfokaa
open Go.RowKit Go.WideShapes Go.ChangeShapes
set_option linter.all false
theorem Mid.reads {w : World} {N n c : Nat} {t : TypeId} {A : Option Addr} {xs : List Value} (h : Mid w N t 1 (.slice A n c) n xs) : Reads w w.heap.size 1 A n xs := by
  refine ⟨h.1, fun hn => ?_⟩
  rcases h.2 with ⟨h', h0⟩ | ⟨g, off, cap, cur, h', hb, hh, _⟩
  · omega
  · simp only [Value.slice.injEq, true_and] at h'
    obtain ⟨rfl, rfl⟩ := h'
    refine ⟨_, rfl, ?_, fun j u hu => ?_⟩
    · rcases Nat.lt_or_ge g w.heap.size with hlt | hge
      · exact hlt
      · rw [Array.getElem?_eq_none hge] at hh; cases hh
    · rw [Addr.add_lit]; exact h.cells j u hu
theorem toks_run : toks [84, 111, 32, 98, 101, 44, 32, 111, 114, 32, 110, 111, 116, 32, 84, 79, 32, 98, 101, 32, 50] = [[50], [98, 101], [110, 111, 116], [111, 114], [116, 111]] := by
  refine toks_eq (by unfold Rises; decide) fun x => ?_
  have : words [84, 111, 32, 98, 101, 44, 32, 111, 114, 32, 110, 111, 116, 32, 84, 79, 32, 98, 101, 32, 50] = [[116, 111], [98, 101], [111, 114], [110, 111, 116], [116, 111], [98, 101], [50]] := by kernel_rfl
  rw [this]
  simp only [List.mem_cons, List.not_mem_nil, or_false]
  constructor
  · rintro (rfl | rfl | rfl | rfl | rfl) <;> simp
  · rintro (rfl | rfl | rfl | rfl | rfl | rfl | rfl) <;> simp
section
variable {w w' : World} {base size n : Nat} {t : TypeId} {v : Value} {xs : List Value} {P : Program}
theorem Mid.lit (hb : base ≤ w.heap.size) (u : Value) : Mid (w.alloc (.cells #[u] t)) base t 1 (.slice (some ⟨w.heap.size, 0, none⟩) 1 1) 1 [u] :=
  ⟨rfl, .inr ⟨_, 0, 1, #[u], rfl, hb, heap_alloc_new w _, Nat.le_refl _, by unfold maxLen; omega, by simp, rfl⟩⟩
theorem Mid.empty (hb : base ≤ w.heap.size) : Mid (w.alloc (.cells #[] t)) base t 1 (.slice (some ⟨w.heap.size, 0, none⟩) 0 0) 0 [] :=
  ⟨rfl, .inr ⟨_, 0, 0, #[], rfl, hb, heap_alloc_new w _, Nat.le_refl _, by unfold maxLen; omega, by simp, rfl⟩⟩
theorem Reads.cells {B m : Nat} {a : Addr} (h : Reads w B 1 (some a) m xs) : ∀ j u, xs[j]? = some u → w.cell? (a.add j) = some u := fun j u hu => by
  have hj : j < m := by
    have := (List.getElem?_eq_some_iff.1 hu).1
    have := h.1; omega
  obtain ⟨ad, e, _, hc⟩ := h.2 (by omega)
  injection e with e
  subst e
  exact hc j u hu
theorem below_fresh {n c : Nat} {v' : Value} {o : Obj} (h : Ran (.slice (some ⟨w.heap.size, 0, none⟩) n c) v' (w.alloc o) w') : Below w.heap.size w w' :=
  ((Below.refl _ _).alloc (Nat.le_refl _) o).grown h.grown (by simp) fun g hg => by simp [Value.ownBlock] at hg; omega
theorem run_append_keep (ty e : TypeId) (t : TypeId) (i : TypeInfo) (z : Value) (bytes : Nat) (ht : P.underlying t = some (.slice e)) (hi : P.info? e = some i) (hz : i.zero = some z)
    (hsize : i.size = size) (hby : i.bytes = bytes) (hzs : z.cells.size = size) (hsz : 0 < size) (h : Mid w base e size v n xs)
    (ad : Addr) (m c : Nat) (news : List Value) (hl : news.length = m * size) (hnews : ∀ j u, news[j]? = some u → w.cell? (ad.add j) = some u) (h1 : ∀ u ∈ news, u.oneCell' = true)
    (h63 : n + m ≤ maxLen) (hbytes : (n + m) * bytes ≤ 140737488355328) (hbase : base ≤ w.heap.size) :
    ∃ v' w', (Builtin.append_ #[t, t] ty #[v, .slice (some ad) m c]).run P w = .ok v' w' ∧ Mid w' base e size v' (n + m) (xs ++ news) ∧ Ran v v' w w' ∧ Mid w' base e size v n xs := by
  rcases h.2 with ⟨rfl, rfl⟩ | ⟨g, off, cap, cur, rfl, hb, hh, hn, hc, hs, hx⟩
  · have hx0 : xs = [] := List.eq_nil_of_length_eq_zero (by simpa using h.1)
    subst hx0
    obtain ⟨v', w', a, b, d⟩ := run_append_mid (P := P) ty e t i z bytes ht hi hz hsize hby hzs hsz h ad m c news hl hnews h1 h63 hbytes hbase
    exact ⟨v', w', a, b, d, Mid.nil _ _ _ _⟩
  · by_cases hr : n + m ≤ cap
    · have hml : (n + m) * size ≤ cap * size := Nat.mul_le_mul_right _ hr
      have hnl : (n + m) * size = n * size + m * size := Nat.add_mul _ _ _
      have hb1 : off + n * size + news.length ≤ cur.size := by rw [hl]; omega
      subst hsize
      have hcell : ∀ j, j < news.length → (w.cell? ⟨g, off + n * i.size + j, none⟩).isSome = true := fun j hj => by
        simp only [World.cell?, hh]
        rw [Array.getElem?_eq_getElem (show off + n * i.size + j < cur.size by omega)]; rfl
      have hrun := run_append_room_cells (P := P) w t ty e i ht hi g off n cap ad m c news hl hnews h1 hr hcell (fun j hj => by simp [World.frozen?, hh])
      obtain ⟨c', a1, a2, a3, a4⟩ := heap_setCells_same news (off + n * i.size) w cur e hh hb1
      have q1 : (c'.toList.drop off).take (n * i.size) = xs := by
        rw [← hx, List.take_drop, List.take_drop, a3]
      refine ⟨_, _, hrun, ⟨by rw [List.length_append, h.1, hl, Nat.add_mul], .inr ⟨g, off, cap, c', rfl, hb, a1, hr, hc, by omega, ?_⟩⟩, ⟨⟨(World.keptBut_setCells g (may := fun _ => True) news _ w (fun _ _ => trivial)).1, tape_setCells _ _ _ _, (World.keptBut_setCells g (may := fun _ => True) news _ w (fun _ _ => trivial)).2.1, by rw [size_setCells_]; exact Nat.le_refl _, fun k hk hr' => World.heap_setCells_other w g _ news hk (fun e => hr' (by rw [e]; rfl))⟩, .inl rfl⟩, ⟨h.1, .inr ⟨g, off, cap, c', rfl, hb, a1, hn, hc, by omega, q1⟩⟩⟩
      rw [hnl, List.take_add, q1, List.drop_drop, ← hl, a4]
    · obtain ⟨v', w', hrun, r1, r2⟩ := run_append_arg_grows (P := P) w t ty e i z size bytes ht hi hz hsize hby hzs hsz ⟨g, off, none⟩ n cap xs h.1 (fun j u hj => by rw [Addr.add_lit]; exact h.cells j u hj) ad m c news hl hnews (by omega) h63 hbytes
      have hm := Mid.of_own r1
      refine ⟨v', w', hrun, ⟨hm.1, ?_⟩, ⟨⟨r2.os, r2.tape, r2.output, r2.size, fun k hk _ => r2.block k hk (by simp)⟩, .inr fun g hg => (hm.lt g hg).1⟩, h.same fun g hg => r2.block g (h.lt g hg).2 (by simp)⟩
      rcases hm.2 with h' | ⟨g, off, cap, cur, hv, hb, rest⟩
      · exact .inl h'
      · exact .inr ⟨g, off, cap, cur, hv, by omega, rest⟩
theorem wpList_append_keep {ops : Array Oper} {rest : List Oper} {o : Oper} {a : Act} {Q : Exit → Act → World → Prop} (hw : Region.wanted o (yielded ops a.tmps) = true) (s x : Operand) (t : TypeId)
    (ho : o.op = .call { callee := .builtin .append, args := #[s, x], argTypes := #[t, t] })
    (base : Nat) (e : TypeId) (i : TypeInfo) (z : Value) (size bytes : Nat) (ht : P.underlying t = some (.slice e)) (hi : P.info? e = some i) (hz : i.zero = some z)
    (hsize : i.size = size) (hby : i.bytes = bytes) (hzs : z.cells.size = size) (hsz : 0 < size) (v : Value) (n : Nat) (xs : List Value) (hs : a.eval s = v) (h : Mid w base e size v n xs)
    (ad : Addr) (m c : Nat) (news : List Value) (hx : a.eval x = .slice (some ad) m c) (hl : news.length = m * size) (hnews : ∀ j u, news[j]? = some u → w.cell? (ad.add j) = some u) (h1 : ∀ u ∈ news, u.oneCell' = true)
    (h63 : n + m ≤ maxLen) (hbytes : (n + m) * bytes ≤ 140737488355328) (hbase : base ≤ w.heap.size)
    (hK : ∀ v' w', Mid w' base e size v' (n + m) (xs ++ news) → Ran v v' w w' → Mid w' base e size v n xs → wpList P ops Q rest (a.put o.dst v') w') : wpList P ops Q (o :: rest) a w := by
  refine BigFrame.wpList_want hw fun K hK' => ?_
  obtain ⟨v', w', hrun, h2, h3, h4⟩ := run_append_keep (P := P) o.type e t i z bytes ht hi hz hsize hby hzs hsz h ad m c news hl hnews h1 h63 hbytes hbase
  unfold Oper.wp execOp
  simp only [ho, resolve, invoke, builtin, Sem.run_bind, Sem.run_pure, Result.andThen_ok, List.map_toArray, List.map_cons, List.map_nil, hs, hx, hrun]
  exact hK' _ _ (hK v' w' h2 h3 h4)
end
section
variable {w : World} {base size n : Nat} {v : Value} {xs : List Value} {P : Program}
theorem run_append_empty (t ty e : TypeId) (i : TypeInfo) (ht : P.underlying t = some (.slice e)) (hi : P.info? e = some i) (h : Mid w base e size v n xs) (A : Option Addr) (c : Nat) :
    (Builtin.append_ #[t, t] ty #[v, .slice A 0 c]).run P w = .ok v w := by
  rcases h.2 with ⟨rfl, rfl⟩ | ⟨g, off, cap, cur, rfl, _, _, hnc, _⟩
  · cases A <;> simp [Builtin.append_, run_underlying ht, sizeOf, typeInfo, hi, Builtin.lenOf, Builtin.firstCells, storeCells, loadCells, loadCellsFrom]
  · cases A <;> simp [Builtin.append_, run_underlying ht, sizeOf, typeInfo, hi, Builtin.lenOf, Builtin.firstCells, hnc, storeCells, loadCells, loadCellsFrom]
theorem run_append_src (ty e : TypeId) (t : TypeId) (i : TypeInfo) (z : Value) (bytes : Nat) (ht : P.underlying t = some (.slice e)) (hi : P.info? e = some i) (hz : i.zero = some z)
    (hsize : i.size = size) (hby : i.bytes = bytes) (hzs : z.cells.size = size) (hsz : 0 < size) (h : Mid w base e size v n xs)
    (B : Nat) (A : Option Addr) (m c : Nat) (news : List Value) (hr : Reads w B size A m news) (h1 : ∀ u ∈ news, u.oneCell' = true)
    (h63 : n + m ≤ maxLen) (hbytes : (n + m) * bytes ≤ 140737488355328) (hbase : base ≤ w.heap.size) :
    ∃ v' w', (Builtin.append_ #[t, t] ty #[v, .slice A m c]).run P w = .ok v' w' ∧ Mid w' base e size v' (n + m) (xs ++ news) ∧ Ran v v' w w' := by
  rcases Nat.eq_zero_or_pos m with rfl | hm
  · have h0 : news = [] := List.eq_nil_of_length_eq_zero (by simpa using hr.1)
    subst h0
    exact ⟨v, w, run_append_empty t ty e i ht hi h A c, by simpa using h, ⟨World.grownBy.refl w _, .inl rfl⟩⟩
  · obtain ⟨ad, rfl, _, hc⟩ := hr.2 hm
    exact run_append_mid ty e t i z bytes ht hi hz hsize hby hzs hsz h ad m c news hr.1 hc h1 h63 hbytes hbase
theorem step_append_src {ops : Array Oper} {o : Oper} {a : Act} {K : Act → World → Prop} {Q : Exit → Act → World → Prop} {E : Prop} (hgd : o.guard = none) (s x : Operand) (t : TypeId)
    (ho : o.op = .call { callee := .builtin .append, args := #[s, x], argTypes := #[t, t] })
    (base : Nat) (e : TypeId) (i : TypeInfo) (z : Value) (size bytes : Nat) (ht : P.underlying t = some (.slice e)) (hi : P.info? e = some i) (hz : i.zero = some z)
    (hsize : i.size = size) (hby : i.bytes = bytes) (hzs : z.cells.size = size) (hsz : 0 < size) (v : Value) (n : Nat) (xs : List Value) (hs : a.eval s = v) (h : Mid w base e size v n xs)
    (B : Nat) (A : Option Addr) (m c : Nat) (news : List Value) (hx : a.eval x = .slice A m c) (hr : Reads w B size A m news) (h1 : ∀ u ∈ news, u.oneCell' = true)
    (h63 : n + m ≤ maxLen) (hbytes : (n + m) * bytes ≤ 140737488355328) (hbase : base ≤ w.heap.size)
    (hK : ∀ v' w', Mid w' base e size v' (n + m) (xs ++ news) → Ran v v' w w' → K (a.put o.dst v') w') :
    if Region.wanted o (yielded ops a.tmps) = true then Oper.wp P o a w K Q else E := by
  have hw : Region.wanted o (yielded ops a.tmps) = true := by simp [Region.wanted, hgd]
  rw [if_pos hw]
  obtain ⟨v', w', hrun, h2, h3⟩ := run_append_src (P := P) o.type e t i z bytes ht hi hz hsize hby hzs hsz h B A m c news hr h1 h63 hbytes hbase
  unfold Oper.wp execOp
  simp only [ho, resolve, invoke, builtin, Sem.run_bind, Sem.run_pure, Result.andThen_ok, List.map_toArray, List.map_cons, List.map_nil, hs, hx, hrun]
  exact hK v' w' h2 h3
end
theorem Reads.block {w : World} {xs : List Value} (t : TypeId) (cs : Array Value) (h : cs.toList = xs) : Reads (w.alloc (.cells cs t)) (w.alloc (.cells cs t)).heap.size 1 (some ⟨w.heap.size, 0, none⟩) xs.length xs := by
  subst h
  exact ⟨by simp, fun _ => ⟨_, rfl, by simp, World.news_of_block (cs := cs) (t := t) (fr := (0, 0)) (heap_alloc_new w _)⟩⟩
theorem Reads.on {w w' : World} {A : Option Addr} {n : Nat} {xs : List Value} (h : Reads w w.heap.size 1 A n xs) (hb : Below w.heap.size w w') : Reads w' w'.heap.size 1 A n xs := (h.below hb).more hb.size
theorem Reads.onA {w : World} {A : Option Addr} {n : Nat} {xs : List Value} (h : Reads w w.heap.size 1 A n xs) (o : Obj) : Reads (w.alloc o) (w.alloc o).heap.size 1 A n xs := h.on ((Below.refl _ _).alloc (Nat.le_refl _) o)
theorem below_alloc (w : World) (o : Obj) : Below w.heap.size w (w.alloc o) := (Below.refl _ _).alloc (Nat.le_refl _) o
def runL : List (List UInt8) := [[50], [98, 101], [110, 111, 116], [111, 114], [116, 111]]
set_option maxRecDepth 100000 in
set_option maxHeartbeats 800000 in
theorem runs_any (w : World) : Calls Try.prog 13 #[] w fun e w' => e = .returned (.bool true) ∧ Below w.heap.size w w' := by
  go_enter Try.func13, Try.ntmps13
  go_wp2_with (first
    | (go_at_call 8; refine (terms_any _ _ (by decide)).mono ?_
       rintro e w1 ⟨v1, rfl, hm1, hb1⟩
       have hm1' : Mid w1 w.heap.size 9 1 v1 5 (strs runL) := (by
         have e9 : toks [84, 111, 32, 98, 101, 44, 32, 111, 114, 32, 110, 111, 116, 32, 84, 79, 32, 98, 101, 32, 50] = runL := toks_run
         have h : Mid w1 w.heap.size 9 1 v1 (toks [84, 111, 32, 98, 101, 44, 32, 111, 114, 32, 110, 111, 116, 32, 84, 79, 32, 98, 101, 32, 50]).length (strs (toks [84, 111, 32, 98, 101, 44, 32, 111, 114, 32, 110, 111, 116, 32, 84, 79, 32, 98, 101, 32, 50])) := hm1
         rw [e9] at h; exact h)
       obtain ⟨A1, c1, rfl⟩ := hm1'.form
       have HM := Lib.hid hm1'
       have HB := Lib.hid hb1
       clear hm1 hb1 hm1')
    | (go_at_call 10; refine (same_s _ A1 _ 5 5 c1 5 runL runL _ (HM.out.reads.onA _) (Reads.block (xs := strs runL) 9 _ rfl) (by omega) (by omega)).mono ?_
       rintro e w2 ⟨rfl, hb2⟩
       rw [eqB_self]
       have HB2 := Lib.hid (after HB.out (after (below_alloc _ _) hb2))
       clear hb2)
    | fail)
  go_ret
  exact ⟨rfl, HB2.out⟩
end Go.Proofs.Ytoffibcplbfokaa
