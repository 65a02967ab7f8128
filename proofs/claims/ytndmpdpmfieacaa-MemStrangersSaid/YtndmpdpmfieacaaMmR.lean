/-
  MemStrangers: the calls of those that are no clients (regions 7, 8); conditions: lengths.
-/
import Derived.Test.YtndmpdpmfieacaaMmP
namespace Go.Proofs.Ytndmpdpmfieacaa
open Go.RowKit Go.WideShapes Go.ChangeShapes
set_option linter.all false
/-- What these regions load. -/
structure SA (r pa k : Nat) (kd rf ac n was : Int) (A : Option Addr) (m c : Nat) (W : World) : Prop where
  a0 : W.cell? ⟨pa, 0, none⟩ = some (.int .i64 kd)
  a1 : W.cell? ⟨pa, 1, none⟩ = some (.int .i64 rf)
  a2 : W.cell? ⟨pa, 2, none⟩ = some (.int .i64 ac)
  a3 : W.cell? ⟨pa, 3, none⟩ = some (.int .i64 n)
  a4 : W.cell? ⟨pa, 4, none⟩ = some (.int .u64 was)
  a5 : W.cell? ⟨pa, 5, none⟩ = some (.slice A m c)
  cl : W.cell? ⟨r, 5, none⟩ = some (.int .i64 (k : Nat))
theorem SA.on {r pa k : Nat} {kd rf ac n was : Int} {A : Option Addr} {m c : Nat} {W W' : World} (h : SA r pa k kd rf ac n was A m c W) (hb : Below W.heap.size W W') : SA r pa k kd rf ac n was A m c W' :=
  have l0 : pa < W.heap.size := World.block_lt_of_cell? _ _ h.a0
  have l1 : r < W.heap.size := World.block_lt_of_cell? _ _ h.cl
  ⟨(hb.cell (p := ⟨pa, 0, none⟩) l0).trans h.a0, (hb.cell (p := ⟨pa, 1, none⟩) l0).trans h.a1, (hb.cell (p := ⟨pa, 2, none⟩) l0).trans h.a2, (hb.cell (p := ⟨pa, 3, none⟩) l0).trans h.a3, (hb.cell (p := ⟨pa, 4, none⟩) l0).trans h.a4, (hb.cell (p := ⟨pa, 5, none⟩) l0).trans h.a5, (hb.cell (p := ⟨r, 5, none⟩) l1).trans h.cl⟩
set_option maxRecDepth 100000 in
set_option maxHeartbeats 6400000 in
theorem regs7 {w : World} {b r pa j k : Nat} {cl kd rf ac n was : Int} {A : Option Addr} {m c : Nat} {u0 u2 u3 u4 u6 u9 u10 u11 u12 u13 u14 u15 u16 u17 u18 u19 u20 u21 u22 u23 u24 u25 u26 u27 u28 u29 u30 u31 u32 u33 u34 u35 u36 u37 u38 u39 u40 u41 u42 u43 u44 u45 u46 u47 u48 u49 u50 u51 u52 u53 u54 u55 u56 u57 u58 u59 u60 u61 u62 u63 u64 u65 u66 u67 u68 u69 u70 u71 u72 u73 u74 u75 u76 u77 u78 u79 u80 u81 u82 u83 u84 u85 u86 u87 u88 u89 u90 u91 u92 u93 u94 u95 u96 u97 u98 u99 u100 u101 u102 u103 u104 u105 u106 u107 u108 u109 u110 : Value} {Q : Exit → Act → World → Prop}
    (hS : SA r pa k kd rf ac n was A m c w) (hwn : ∀ W, Calls Try.prog 21 #[.int .i64 cl, .int .i64 0, .int .i64 9] W fun e w' => e = .returned (.int .i64 (j : Nat)) ∧ W = w') (hj : j < 10) (hk : k ≤ 4)
    (hdo : ∀ W, Below w.heap.size w W → Calls Try.prog 35 #[.pointer (some ⟨b, 0, none⟩), .int .i64 (-1 - (j : Nat)), accV kd rf ac n was A m c] W fun e w' => e = .returned (resV 1 0 false none 0 0) ∧ Below W.heap.size W w')
    (hpn : ∀ c (a : Act) i v w, Q (.panic c) (a.put (some i) v) w → Q (.panic c) a w)
    (hQ : ∀ (v34 v35 v36 v37 v38 v39 : Value) (tb : Nat) (w' : World), Below w.heap.size w w' → w'.heap[tb]? = some (.cells #[.int .i64 1, .int .i64 0, .bool false, .slice none 0 0] 80 (0, 0)) → w.heap.size ≤ tb → Q .normal { tmps := #[u0, Value.int IntKind.i64 cl, u2, u3, u4, Value.pointer (some ⟨pa, 0, none⟩), u6, Value.pointer (some ⟨r, 0, none⟩), Value.pointer (some ⟨b, 0, none⟩), u9, Value.pointer (some ⟨tb, 0, none⟩), u11, u12, u13, u14, u15, u16, u17, u18, u19, u20, u21, u22, u23, u24, u25, u26, u27, u28, u29, u30, u31, u32, u33, v34, v35, v36, v37, v38, v39, u40, u41, u42, u43, u44, u45, u46, u47, u48, u49, u50, u51, u52, u53, u54, u55, u56, u57, u58, u59, u60, u61, u62, u63, u64, u65, u66, u67, u68, u69, u70, u71, u72, u73, u74, u75, u76, u77, u78, u79, u80, u81, u82, u83, u84, u85, u86, u87, u88, u89, u90, u91, u92, u93, u94, u95, u96, u97, u98, u99, u100, u101, u102, u103, u104, u105, u106, u107, u108, u109, u110], defers := [] } w') :
    (Code.region 7 (#[{ dst := some 34, op := Op.move (Operand.tmp 8), type := 76, pos := "law.go:211", after := #[], guard := none }, { dst := some 35, op := Op.move (Operand.tmp 1), type := 3, pos := "law.go:211", after := #[], guard := none }, { dst := some 36, op := Op.call { callee := Callee.value (Operand.func 21), args := #[Operand.tmp 35, Operand.const (Value.int IntKind.i64 0), Operand.const (Value.int IntKind.i64 9)], argTypes := #[3, 3, 3] }, type := 3, pos := "law.go:211", after := #[{ on := 1, ground := Ground.data }], guard := none }, { dst := some 37, op := Op.binOp BinOp.sub 3 (Operand.const (Value.int IntKind.i64 (-1))) (Operand.tmp 36) 3, type := 3, pos := "law.go:211", after := #[{ on := 2, ground := Ground.data }], guard := none }, { dst := some 38, op := Op.load 74 (Operand.tmp 5), type := 74, pos := "law.go:211", after := #[], guard := none }, { dst := some 39, op := Op.call { callee := Callee.value (Operand.func 35), args := #[Operand.tmp 34, Operand.tmp 37, Operand.tmp 38], argTypes := #[76, 3, 74] }, type := 80, pos := "law.go:211", after := #[{ on := 0, ground := Ground.data }, { on := 3, ground := Ground.data }, { on := 4, ground := Ground.data }, { on := 2, ground := Ground.chain }], guard := none }, { dst := some 10, op := Op.alloc 80, type := 0, pos := "law.go:211", after := #[], guard := none }, { dst := none, op := Op.store 80 (Operand.tmp 10) (Operand.tmp 39), type := 0, pos := "law.go:211", after := #[{ on := 6, ground := Ground.data }, { on := 5, ground := Ground.data }, { on := 5, ground := Ground.chain }, { on := 0, ground := Ground.phase }, { on := 1, ground := Ground.phase }, { on := 2, ground := Ground.phase }, { on := 3, ground := Ground.phase }, { on := 4, ground := Ground.phase }, { on := 5, ground := Ground.phase }, { on := 6, ground := Ground.phase }], guard := none }] : Array Oper) true).wp Try.prog Q { tmps := #[u0, Value.int IntKind.i64 cl, u2, u3, u4, Value.pointer (some ⟨pa, 0, none⟩), u6, Value.pointer (some ⟨r, 0, none⟩), Value.pointer (some ⟨b, 0, none⟩), u9, u10, u11, u12, u13, u14, u15, u16, u17, u18, u19, u20, u21, u22, u23, u24, u25, u26, u27, u28, u29, u30, u31, u32, u33, u34, u35, u36, u37, u38, u39, u40, u41, u42, u43, u44, u45, u46, u47, u48, u49, u50, u51, u52, u53, u54, u55, u56, u57, u58, u59, u60, u61, u62, u63, u64, u65, u66, u67, u68, u69, u70, u71, u72, u73, u74, u75, u76, u77, u78, u79, u80, u81, u82, u83, u84, u85, u86, u87, u88, u89, u90, u91, u92, u93, u94, u95, u96, u97, u98, u99, u100, u101, u102, u103, u104, u105, u106, u107, u108, u109, u110], defers := [] } w := by
  have HQ := Lib.hid hQ
  have HPN := Lib.hid hpn
  have HWN := Lib.hid hwn
  unfold accV at hdo
  have HDO := Lib.hid hdo
  clear hQ hpn hwn hdo
  obtain ⟨wd, hwd⟩ : ∃ wd : World, wd = w.drew := ⟨_, rfl⟩
  have HSwd : Hid (SA r pa k kd rf ac n was A m c wd) := Lib.hid (by rw [hwd]; exact hS.on (below_drew w))
  have HBwd : Hid (Below w.heap.size w wd) := Lib.hid (by rw [hwd]; exact below_drew w)
  have j00 : (0 : Int) ≤ j := by omega
  have hwm : IntKind.i64.wrap (-1 - (j : Nat)) = -1 - (j : Nat) := IntWalk.i64_in _ (by omega)
  clear hS
  dsimp only
  refine wp_region_K (SA r pa k kd rf ac n was A m c) 7 (by kernel_rfl) ?_
  rw [← hwd]
  clear hwd
  refine wpAnyK_pure (i := 0) (oi := _) (v := ?_) (by rfl) (by kernel_rfl) (fun c a w h => HPN.out c a _ _ w h) (Or.inl ⟨by rfl, ?_⟩) ?_
  rotate_left 1
  · intro w' _
    go_simp
    all_goals with_reducible rfl
  simp only [Act.put, List.getElem_toArray, List.getElem_cons_zero, List.getElem_cons_succ, List.setIfInBounds_toArray, List.set_cons_zero, List.set_cons_succ]
  refine wpAnyK_pure (i := 1) (oi := _) (v := ?_) (by rfl) (by kernel_rfl) (fun c a w h => HPN.out c a _ _ w h) (Or.inl ⟨by rfl, ?_⟩) ?_
  rotate_left 1
  · intro w' _
    go_simp
    all_goals with_reducible rfl
  simp only [Act.put, List.getElem_toArray, List.getElem_cons_zero, List.getElem_cons_succ, List.setIfInBounds_toArray, List.set_cons_zero, List.set_cons_succ]
  refine wpAnyK_take (i := 4) (oi := _) (v := ?_) (by rfl) (by kernel_rfl) (fun c a w h => HPN.out c a _ _ w h) HSwd.out (Or.inl ⟨by rfl, ?_⟩) ?_
  rotate_left 1
  · intro w' hl
    have l0 := hl.a0
    have l1 := hl.a1
    have l2 := hl.a2
    have l3 := hl.a3
    have l4 := hl.a4
    have l5 := hl.a5
    have l6 := hl.cl
    clear hl
    go_simp
    all_goals with_reducible rfl
  simp only [Act.put, List.getElem_toArray, List.getElem_cons_zero, List.getElem_cons_succ, List.setIfInBounds_toArray, List.set_cons_zero, List.set_cons_succ]
  refine wpAnyK_all (rs := [2, 6]) (by kernel_rfl) (by simp) ?_
  intro ix hix
  simp only [List.mem_cons, List.not_mem_nil, or_false] at hix
  rcases hix with rfl | rfl
  · refine wpK_op (o := _) (by rfl) (fun K hK => ?_)
    go_simp
    go_at_call 21
    refine (HWN.out _).mono ?_
    rintro e w9 ⟨rfl, hh⟩
    subst w9
    refine hK _ _ (fun _ _ => HSwd.out) ?_
    clear hK K
    try simp only [Act.put, List.getElem_toArray, List.getElem_cons_zero, List.getElem_cons_succ, List.setIfInBounds_toArray, List.set_cons_zero, List.set_cons_succ]
    refine wpAnyK_pure (i := 3) (oi := _) (v := ?_) (by rfl) (by kernel_rfl) (fun c a w h => HPN.out c a _ _ w h) (Or.inl ⟨by rfl, ?_⟩) ?_
    rotate_left 1
    · intro w' _
      go_simp
      all_goals with_reducible rfl
    simp only [Act.put, List.getElem_toArray, List.getElem_cons_zero, List.getElem_cons_succ, List.setIfInBounds_toArray, List.set_cons_zero, List.set_cons_succ]
    refine wpAnyK_all (rs := [5, 6]) (by kernel_rfl) (by simp) ?_
    intro ix hix
    simp only [List.mem_cons, List.not_mem_nil, or_false] at hix
    rcases hix with rfl | rfl
    · refine wpK_op (o := _) (by rfl) (fun K hK => ?_)
      go_simp
      go_at_call 35
      refine (HDO.out _ HBwd.out).mono ?_
      rintro e w102 ⟨rfl, hb9⟩
      unfold resV
      have HSw102 := Lib.hid (HSwd.out.on hb9)
      have HBw102 := Lib.hid (HBwd.out.trans (hb9.mono HBwd.out.size))
      clear hb9
      refine hK _ _ (fun _ _ => HSw102.out) ?_
      clear hK K
      try simp only [Act.put, List.getElem_toArray, List.getElem_cons_zero, List.getElem_cons_succ, List.setIfInBounds_toArray, List.set_cons_zero, List.set_cons_succ]
      refine wpAnyK_all (rs := [6]) (by kernel_rfl) (by simp) ?_
      intro ix hix
      simp only [List.mem_cons, List.not_mem_nil, or_false] at hix
      subst hix
      refine wpK_op (o := _) (by rfl) (fun K hK => ?_)
      go_simp
      obtain ⟨w103, hnw⟩ : ∃ x : World, x = w102.alloc (.cells #[.int .i64 0, .int .i64 0, .bool false, .slice none 0 0] 80) := ⟨_, rfl⟩
      obtain ⟨tb, htb⟩ : ∃ x, x = w102.heap.size := ⟨_, rfl⟩
      have hzb : w103.heap[tb]? = some (.cells #[.int .i64 0, .int .i64 0, .bool false, .slice none 0 0] 80 (0, 0)) := by rw [hnw, htb]; exact heap_alloc_new w102 _
      have hb9 : Below w102.heap.size w102 w103 := by rw [hnw]; exact below_alloc w102 _
      rw [← hnw, ← htb]
      have HTB : Hid (w.heap.size ≤ tb) := Lib.hid (by rw [htb]; exact HBw102.out.size)
      have HZw103 := Lib.hid hzb
      have HSw103 := Lib.hid (HSw102.out.on hb9)
      have HBw103 := Lib.hid (HBw102.out.trans (hb9.mono HBw102.out.size))
      clear hnw htb hzb hb9
      refine hK _ _ (fun _ _ => HSw103.out) ?_
      clear hK K
      try simp only [Act.put, List.getElem_toArray, List.getElem_cons_zero, List.getElem_cons_succ, List.setIfInBounds_toArray, List.set_cons_zero, List.set_cons_succ]
      refine wpAnyK_all (rs := [7]) (by kernel_rfl) (by simp) ?_
      intro ix hix
      simp only [List.mem_cons, List.not_mem_nil, or_false] at hix
      subst hix
      refine wpK_op (o := _) (by rfl) (fun K hK => ?_)
      have HBF := HBw103
      have HZF := HZw103
      have q0 : w103.cell? ⟨tb, 0, none⟩ = some (.int .i64 0) := (cell_of HZF.out 0).trans rfl
      have q1 : w103.cell? ⟨tb, 1, none⟩ = some (.int .i64 0) := (cell_of HZF.out 1).trans rfl
      have q2 : w103.cell? ⟨tb, 2, none⟩ = some (.bool false) := (cell_of HZF.out 2).trans rfl
      have q3 : w103.cell? ⟨tb, 3, none⟩ = some (.slice none 0 0) := (cell_of HZF.out 3).trans rfl
      have f0 := frozen_of HZF.out 0
      have f1 := frozen_of HZF.out 1
      have f2 := frozen_of HZF.out 2
      have f3 := frozen_of HZF.out 3
      go_simp
      refine hK _ _ (fun h => absurd h (by omega)) ?_
      clear hK K
      try simp only [Act.put, List.getElem_toArray, List.getElem_cons_zero, List.getElem_cons_succ, List.setIfInBounds_toArray, List.set_cons_zero, List.set_cons_succ]
      refine wpAnyK_done (by kernel_rfl) ?_ _
      exact HQ.out _ _ _ _ _ _ tb _ (below4 HBF.out HTB.out _ _ _ _) (set4 HZF.out _ _ _ _) HTB.out
    · refine wpK_op (o := _) (by rfl) (fun K hK => ?_)
      go_simp
      obtain ⟨w105, hnw⟩ : ∃ x : World, x = wd.alloc (.cells #[.int .i64 0, .int .i64 0, .bool false, .slice none 0 0] 80) := ⟨_, rfl⟩
      obtain ⟨tb, htb⟩ : ∃ x, x = wd.heap.size := ⟨_, rfl⟩
      have hzb : w105.heap[tb]? = some (.cells #[.int .i64 0, .int .i64 0, .bool false, .slice none 0 0] 80 (0, 0)) := by rw [hnw, htb]; exact heap_alloc_new wd _
      have hb9 : Below wd.heap.size wd w105 := by rw [hnw]; exact below_alloc wd _
      rw [← hnw, ← htb]
      have HTB : Hid (w.heap.size ≤ tb) := Lib.hid (by rw [htb]; exact HBwd.out.size)
      have HZw105 := Lib.hid hzb
      have HSw105 := Lib.hid (HSwd.out.on hb9)
      have HBw105 := Lib.hid (HBwd.out.trans (hb9.mono HBwd.out.size))
      clear hnw htb hzb hb9
      refine hK _ _ (fun _ _ => HSw105.out) ?_
      clear hK K
      try simp only [Act.put, List.getElem_toArray, List.getElem_cons_zero, List.getElem_cons_succ, List.setIfInBounds_toArray, List.set_cons_zero, List.set_cons_succ]
      refine wpAnyK_all (rs := [5]) (by kernel_rfl) (by simp) ?_
      intro ix hix
      simp only [List.mem_cons, List.not_mem_nil, or_false] at hix
      subst hix
      refine wpK_op (o := _) (by rfl) (fun K hK => ?_)
      go_simp
      go_at_call 35
      refine (HDO.out _ HBw105.out).mono ?_
      rintro e w106 ⟨rfl, hb9⟩
      unfold resV
      have HSw106 := Lib.hid (HSw105.out.on hb9)
      have HBw106 := Lib.hid (HBw105.out.trans (hb9.mono HBw105.out.size))
      have HZw106 := Lib.hid ((hb9.block tb (lt_of_heap HZw105.out)).trans HZw105.out)
      clear hb9
      refine hK _ _ (fun _ _ => HSw106.out) ?_
      clear hK K
      try simp only [Act.put, List.getElem_toArray, List.getElem_cons_zero, List.getElem_cons_succ, List.setIfInBounds_toArray, List.set_cons_zero, List.set_cons_succ]
      refine wpAnyK_all (rs := [7]) (by kernel_rfl) (by simp) ?_
      intro ix hix
      simp only [List.mem_cons, List.not_mem_nil, or_false] at hix
      subst hix
      refine wpK_op (o := _) (by rfl) (fun K hK => ?_)
      have HBF := HBw106
      have HZF := HZw106
      have q0 : w106.cell? ⟨tb, 0, none⟩ = some (.int .i64 0) := (cell_of HZF.out 0).trans rfl
      have q1 : w106.cell? ⟨tb, 1, none⟩ = some (.int .i64 0) := (cell_of HZF.out 1).trans rfl
      have q2 : w106.cell? ⟨tb, 2, none⟩ = some (.bool false) := (cell_of HZF.out 2).trans rfl
      have q3 : w106.cell? ⟨tb, 3, none⟩ = some (.slice none 0 0) := (cell_of HZF.out 3).trans rfl
      have f0 := frozen_of HZF.out 0
      have f1 := frozen_of HZF.out 1
      have f2 := frozen_of HZF.out 2
      have f3 := frozen_of HZF.out 3
      go_simp
      refine hK _ _ (fun h => absurd h (by omega)) ?_
      clear hK K
      try simp only [Act.put, List.getElem_toArray, List.getElem_cons_zero, List.getElem_cons_succ, List.setIfInBounds_toArray, List.set_cons_zero, List.set_cons_succ]
      refine wpAnyK_done (by kernel_rfl) ?_ _
      exact HQ.out _ _ _ _ _ _ tb _ (below4 HBF.out HTB.out _ _ _ _) (set4 HZF.out _ _ _ _) HTB.out
  · refine wpK_op (o := _) (by rfl) (fun K hK => ?_)
    go_simp
    obtain ⟨w108, hnw⟩ : ∃ x : World, x = wd.alloc (.cells #[.int .i64 0, .int .i64 0, .bool false, .slice none 0 0] 80) := ⟨_, rfl⟩
    obtain ⟨tb, htb⟩ : ∃ x, x = wd.heap.size := ⟨_, rfl⟩
    have hzb : w108.heap[tb]? = some (.cells #[.int .i64 0, .int .i64 0, .bool false, .slice none 0 0] 80 (0, 0)) := by rw [hnw, htb]; exact heap_alloc_new wd _
    have hb9 : Below wd.heap.size wd w108 := by rw [hnw]; exact below_alloc wd _
    rw [← hnw, ← htb]
    have HTB : Hid (w.heap.size ≤ tb) := Lib.hid (by rw [htb]; exact HBwd.out.size)
    have HZw108 := Lib.hid hzb
    have HSw108 := Lib.hid (HSwd.out.on hb9)
    have HBw108 := Lib.hid (HBwd.out.trans (hb9.mono HBwd.out.size))
    clear hnw htb hzb hb9
    refine hK _ _ (fun _ _ => HSw108.out) ?_
    clear hK K
    try simp only [Act.put, List.getElem_toArray, List.getElem_cons_zero, List.getElem_cons_succ, List.setIfInBounds_toArray, List.set_cons_zero, List.set_cons_succ]
    refine wpAnyK_all (rs := [2]) (by kernel_rfl) (by simp) ?_
    intro ix hix
    simp only [List.mem_cons, List.not_mem_nil, or_false] at hix
    subst hix
    refine wpK_op (o := _) (by rfl) (fun K hK => ?_)
    go_simp
    go_at_call 21
    refine (HWN.out _).mono ?_
    rintro e w9 ⟨rfl, hh⟩
    subst w9
    refine hK _ _ (fun _ _ => HSw108.out) ?_
    clear hK K
    try simp only [Act.put, List.getElem_toArray, List.getElem_cons_zero, List.getElem_cons_succ, List.setIfInBounds_toArray, List.set_cons_zero, List.set_cons_succ]
    refine wpAnyK_pure (i := 3) (oi := _) (v := ?_) (by rfl) (by kernel_rfl) (fun c a w h => HPN.out c a _ _ w h) (Or.inl ⟨by rfl, ?_⟩) ?_
    rotate_left 1
    · intro w' _
      go_simp
      all_goals with_reducible rfl
    simp only [Act.put, List.getElem_toArray, List.getElem_cons_zero, List.getElem_cons_succ, List.setIfInBounds_toArray, List.set_cons_zero, List.set_cons_succ]
    refine wpAnyK_all (rs := [5]) (by kernel_rfl) (by simp) ?_
    intro ix hix
    simp only [List.mem_cons, List.not_mem_nil, or_false] at hix
    subst hix
    refine wpK_op (o := _) (by rfl) (fun K hK => ?_)
    go_simp
    go_at_call 35
    refine (HDO.out _ HBw108.out).mono ?_
    rintro e w110 ⟨rfl, hb9⟩
    unfold resV
    have HSw110 := Lib.hid (HSw108.out.on hb9)
    have HBw110 := Lib.hid (HBw108.out.trans (hb9.mono HBw108.out.size))
    have HZw110 := Lib.hid ((hb9.block tb (lt_of_heap HZw108.out)).trans HZw108.out)
    clear hb9
    refine hK _ _ (fun _ _ => HSw110.out) ?_
    clear hK K
    try simp only [Act.put, List.getElem_toArray, List.getElem_cons_zero, List.getElem_cons_succ, List.setIfInBounds_toArray, List.set_cons_zero, List.set_cons_succ]
    refine wpAnyK_all (rs := [7]) (by kernel_rfl) (by simp) ?_
    intro ix hix
    simp only [List.mem_cons, List.not_mem_nil, or_false] at hix
    subst hix
    refine wpK_op (o := _) (by rfl) (fun K hK => ?_)
    have HBF := HBw110
    have HZF := HZw110
    have q0 : w110.cell? ⟨tb, 0, none⟩ = some (.int .i64 0) := (cell_of HZF.out 0).trans rfl
    have q1 : w110.cell? ⟨tb, 1, none⟩ = some (.int .i64 0) := (cell_of HZF.out 1).trans rfl
    have q2 : w110.cell? ⟨tb, 2, none⟩ = some (.bool false) := (cell_of HZF.out 2).trans rfl
    have q3 : w110.cell? ⟨tb, 3, none⟩ = some (.slice none 0 0) := (cell_of HZF.out 3).trans rfl
    have f0 := frozen_of HZF.out 0
    have f1 := frozen_of HZF.out 1
    have f2 := frozen_of HZF.out 2
    have f3 := frozen_of HZF.out 3
    go_simp
    refine hK _ _ (fun h => absurd h (by omega)) ?_
    clear hK K
    try simp only [Act.put, List.getElem_toArray, List.getElem_cons_zero, List.getElem_cons_succ, List.setIfInBounds_toArray, List.set_cons_zero, List.set_cons_succ]
    refine wpAnyK_done (by kernel_rfl) ?_ _
    exact HQ.out _ _ _ _ _ _ tb _ (below4 HBF.out HTB.out _ _ _ _) (set4 HZF.out _ _ _ _) HTB.out
set_option maxRecDepth 100000 in
set_option maxHeartbeats 6400000 in
theorem regs8 {w : World} {b r pa j k : Nat} {cl kd rf ac n was : Int} {A : Option Addr} {m c : Nat} {u0 u2 u3 u4 u6 u9 u10 u11 u12 u13 u14 u15 u16 u17 u18 u19 u20 u21 u22 u23 u24 u25 u26 u27 u28 u29 u30 u31 u32 u33 u34 u35 u36 u37 u38 u39 u40 u41 u42 u43 u44 u45 u46 u47 u48 u49 u50 u51 u52 u53 u54 u55 u56 u57 u58 u59 u60 u61 u62 u63 u64 u65 u66 u67 u68 u69 u70 u71 u72 u73 u74 u75 u76 u77 u78 u79 u80 u81 u82 u83 u84 u85 u86 u87 u88 u89 u90 u91 u92 u93 u94 u95 u96 u97 u98 u99 u100 u101 u102 u103 u104 u105 u106 u107 u108 u109 u110 : Value} {Q : Exit → Act → World → Prop}
    (hS : SA r pa k kd rf ac n was A m c w) (hwn : ∀ W, Calls Try.prog 21 #[.int .i64 cl, .int .i64 0, .int .i64 9] W fun e w' => e = .returned (.int .i64 (j : Nat)) ∧ W = w') (hj : j < 10) (hk : k ≤ 4)
    (hdo : ∀ W, Below w.heap.size w W → Calls Try.prog 35 #[.pointer (some ⟨b, 0, none⟩), .int .i64 ((k : Nat) + (j : Nat)), accV kd rf ac n was A m c] W fun e w' => e = .returned (resV 1 0 false none 0 0) ∧ Below W.heap.size W w')
    (hpn : ∀ c (a : Act) i v w, Q (.panic c) (a.put (some i) v) w → Q (.panic c) a w)
    (hQ : ∀ (v40 v41 v42 v43 v44 v45 v46 v47 : Value) (tb : Nat) (w' : World), Below w.heap.size w w' → w'.heap[tb]? = some (.cells #[.int .i64 1, .int .i64 0, .bool false, .slice none 0 0] 80 (0, 0)) → w.heap.size ≤ tb → Q .normal { tmps := #[u0, Value.int IntKind.i64 cl, u2, u3, u4, Value.pointer (some ⟨pa, 0, none⟩), u6, Value.pointer (some ⟨r, 0, none⟩), Value.pointer (some ⟨b, 0, none⟩), u9, u10, Value.pointer (some ⟨tb, 0, none⟩), u12, u13, u14, u15, u16, u17, u18, u19, u20, u21, u22, u23, u24, u25, u26, u27, u28, u29, u30, u31, u32, u33, u34, u35, u36, u37, u38, u39, v40, v41, v42, v43, v44, v45, v46, v47, u48, u49, u50, u51, u52, u53, u54, u55, u56, u57, u58, u59, u60, u61, u62, u63, u64, u65, u66, u67, u68, u69, u70, u71, u72, u73, u74, u75, u76, u77, u78, u79, u80, u81, u82, u83, u84, u85, u86, u87, u88, u89, u90, u91, u92, u93, u94, u95, u96, u97, u98, u99, u100, u101, u102, u103, u104, u105, u106, u107, u108, u109, u110], defers := [] } w') :
    (Code.region 8 (#[{ dst := some 40, op := Op.move (Operand.tmp 8), type := 76, pos := "law.go:212", after := #[], guard := none }, { dst := some 41, op := Op.fieldAddr 72 (Operand.tmp 7) 1, type := 0, pos := "law.go:212", after := #[], guard := none }, { dst := some 42, op := Op.load 3 (Operand.tmp 41), type := 3, pos := "law.go:212", after := #[{ on := 1, ground := Ground.data }], guard := none }, { dst := some 43, op := Op.move (Operand.tmp 1), type := 3, pos := "law.go:212", after := #[], guard := none }, { dst := some 44, op := Op.call { callee := Callee.value (Operand.func 21), args := #[Operand.tmp 43, Operand.const (Value.int IntKind.i64 0), Operand.const (Value.int IntKind.i64 9)], argTypes := #[3, 3, 3] }, type := 3, pos := "law.go:212", after := #[{ on := 3, ground := Ground.data }], guard := none }, { dst := some 45, op := Op.binOp BinOp.add 3 (Operand.tmp 42) (Operand.tmp 44) 3, type := 3, pos := "law.go:212", after := #[{ on := 2, ground := Ground.data }, { on := 4, ground := Ground.data }], guard := none }, { dst := some 46, op := Op.load 74 (Operand.tmp 5), type := 74, pos := "law.go:212", after := #[], guard := none }, { dst := some 47, op := Op.call { callee := Callee.value (Operand.func 35), args := #[Operand.tmp 40, Operand.tmp 45, Operand.tmp 46], argTypes := #[76, 3, 74] }, type := 80, pos := "law.go:212", after := #[{ on := 0, ground := Ground.data }, { on := 5, ground := Ground.data }, { on := 6, ground := Ground.data }, { on := 4, ground := Ground.chain }], guard := none }, { dst := some 11, op := Op.alloc 80, type := 0, pos := "law.go:212", after := #[], guard := none }, { dst := none, op := Op.store 80 (Operand.tmp 11) (Operand.tmp 47), type := 0, pos := "law.go:212", after := #[{ on := 8, ground := Ground.data }, { on := 7, ground := Ground.data }, { on := 7, ground := Ground.chain }, { on := 0, ground := Ground.phase }, { on := 1, ground := Ground.phase }, { on := 2, ground := Ground.phase }, { on := 3, ground := Ground.phase }, { on := 4, ground := Ground.phase }, { on := 5, ground := Ground.phase }, { on := 6, ground := Ground.phase }, { on := 7, ground := Ground.phase }, { on := 8, ground := Ground.phase }], guard := none }] : Array Oper) true).wp Try.prog Q { tmps := #[u0, Value.int IntKind.i64 cl, u2, u3, u4, Value.pointer (some ⟨pa, 0, none⟩), u6, Value.pointer (some ⟨r, 0, none⟩), Value.pointer (some ⟨b, 0, none⟩), u9, u10, u11, u12, u13, u14, u15, u16, u17, u18, u19, u20, u21, u22, u23, u24, u25, u26, u27, u28, u29, u30, u31, u32, u33, u34, u35, u36, u37, u38, u39, u40, u41, u42, u43, u44, u45, u46, u47, u48, u49, u50, u51, u52, u53, u54, u55, u56, u57, u58, u59, u60, u61, u62, u63, u64, u65, u66, u67, u68, u69, u70, u71, u72, u73, u74, u75, u76, u77, u78, u79, u80, u81, u82, u83, u84, u85, u86, u87, u88, u89, u90, u91, u92, u93, u94, u95, u96, u97, u98, u99, u100, u101, u102, u103, u104, u105, u106, u107, u108, u109, u110], defers := [] } w := by
  have HQ := Lib.hid hQ
  have HPN := Lib.hid hpn
  have HWN := Lib.hid hwn
  unfold accV at hdo
  have HDO := Lib.hid hdo
  clear hQ hpn hwn hdo
  obtain ⟨wd, hwd⟩ : ∃ wd : World, wd = w.drew := ⟨_, rfl⟩
  have HSwd : Hid (SA r pa k kd rf ac n was A m c wd) := Lib.hid (by rw [hwd]; exact hS.on (below_drew w))
  have HBwd : Hid (Below w.heap.size w wd) := Lib.hid (by rw [hwd]; exact below_drew w)
  have j00 : (0 : Int) ≤ j := by omega
  have hwm : IntKind.i64.wrap ((k : Nat) + (j : Nat)) = (k : Nat) + (j : Nat) := IntWalk.i64_in _ (by omega)
  clear hS
  dsimp only
  refine wp_region_K (SA r pa k kd rf ac n was A m c) 9 (by kernel_rfl) ?_
  rw [← hwd]
  clear hwd
  refine wpAnyK_pure (i := 0) (oi := _) (v := ?_) (by rfl) (by kernel_rfl) (fun c a w h => HPN.out c a _ _ w h) (Or.inl ⟨by rfl, ?_⟩) ?_
  rotate_left 1
  · intro w' _
    go_simp
    all_goals with_reducible rfl
  simp only [Act.put, List.getElem_toArray, List.getElem_cons_zero, List.getElem_cons_succ, List.setIfInBounds_toArray, List.set_cons_zero, List.set_cons_succ]
  refine wpAnyK_pure (i := 1) (oi := _) (v := ?_) (by rfl) (by kernel_rfl) (fun c a w h => HPN.out c a _ _ w h) (Or.inl ⟨by rfl, ?_⟩) ?_
  rotate_left 1
  · intro w' _
    go_simp
    all_goals with_reducible rfl
  simp only [Act.put, List.getElem_toArray, List.getElem_cons_zero, List.getElem_cons_succ, List.setIfInBounds_toArray, List.set_cons_zero, List.set_cons_succ]
  refine wpAnyK_pure (i := 3) (oi := _) (v := ?_) (by rfl) (by kernel_rfl) (fun c a w h => HPN.out c a _ _ w h) (Or.inl ⟨by rfl, ?_⟩) ?_
  rotate_left 1
  · intro w' _
    go_simp
    all_goals with_reducible rfl
  simp only [Act.put, List.getElem_toArray, List.getElem_cons_zero, List.getElem_cons_succ, List.setIfInBounds_toArray, List.set_cons_zero, List.set_cons_succ]
  refine wpAnyK_take (i := 2) (oi := _) (v := ?_) (by rfl) (by kernel_rfl) (fun c a w h => HPN.out c a _ _ w h) HSwd.out (Or.inl ⟨by rfl, ?_⟩) ?_
  rotate_left 1
  · intro w' hl
    have l0 := hl.a0
    have l1 := hl.a1
    have l2 := hl.a2
    have l3 := hl.a3
    have l4 := hl.a4
    have l5 := hl.a5
    have l6 := hl.cl
    clear hl
    go_simp
    all_goals with_reducible rfl
  simp only [Act.put, List.getElem_toArray, List.getElem_cons_zero, List.getElem_cons_succ, List.setIfInBounds_toArray, List.set_cons_zero, List.set_cons_succ]
  refine wpAnyK_take (i := 6) (oi := _) (v := ?_) (by rfl) (by kernel_rfl) (fun c a w h => HPN.out c a _ _ w h) HSwd.out (Or.inl ⟨by rfl, ?_⟩) ?_
  rotate_left 1
  · intro w' hl
    have l0 := hl.a0
    have l1 := hl.a1
    have l2 := hl.a2
    have l3 := hl.a3
    have l4 := hl.a4
    have l5 := hl.a5
    have l6 := hl.cl
    clear hl
    go_simp
    all_goals with_reducible rfl
  simp only [Act.put, List.getElem_toArray, List.getElem_cons_zero, List.getElem_cons_succ, List.setIfInBounds_toArray, List.set_cons_zero, List.set_cons_succ]
  refine wpAnyK_all (rs := [4, 8]) (by kernel_rfl) (by simp) ?_
  intro ix hix
  simp only [List.mem_cons, List.not_mem_nil, or_false] at hix
  rcases hix with rfl | rfl
  · refine wpK_op (o := _) (by rfl) (fun K hK => ?_)
    go_simp
    go_at_call 21
    refine (HWN.out _).mono ?_
    rintro e w9 ⟨rfl, hh⟩
    subst w9
    refine hK _ _ (fun _ _ => HSwd.out) ?_
    clear hK K
    try simp only [Act.put, List.getElem_toArray, List.getElem_cons_zero, List.getElem_cons_succ, List.setIfInBounds_toArray, List.set_cons_zero, List.set_cons_succ]
    refine wpAnyK_pure (i := 5) (oi := _) (v := ?_) (by rfl) (by kernel_rfl) (fun c a w h => HPN.out c a _ _ w h) (Or.inl ⟨by rfl, ?_⟩) ?_
    rotate_left 1
    · intro w' _
      go_simp
      all_goals with_reducible rfl
    simp only [Act.put, List.getElem_toArray, List.getElem_cons_zero, List.getElem_cons_succ, List.setIfInBounds_toArray, List.set_cons_zero, List.set_cons_succ]
    refine wpAnyK_all (rs := [7, 8]) (by kernel_rfl) (by simp) ?_
    intro ix hix
    simp only [List.mem_cons, List.not_mem_nil, or_false] at hix
    rcases hix with rfl | rfl
    · refine wpK_op (o := _) (by rfl) (fun K hK => ?_)
      go_simp
      go_at_call 35
      refine (HDO.out _ HBwd.out).mono ?_
      rintro e w102 ⟨rfl, hb9⟩
      unfold resV
      have HSw102 := Lib.hid (HSwd.out.on hb9)
      have HBw102 := Lib.hid (HBwd.out.trans (hb9.mono HBwd.out.size))
      clear hb9
      refine hK _ _ (fun _ _ => HSw102.out) ?_
      clear hK K
      try simp only [Act.put, List.getElem_toArray, List.getElem_cons_zero, List.getElem_cons_succ, List.setIfInBounds_toArray, List.set_cons_zero, List.set_cons_succ]
      refine wpAnyK_all (rs := [8]) (by kernel_rfl) (by simp) ?_
      intro ix hix
      simp only [List.mem_cons, List.not_mem_nil, or_false] at hix
      subst hix
      refine wpK_op (o := _) (by rfl) (fun K hK => ?_)
      go_simp
      obtain ⟨w103, hnw⟩ : ∃ x : World, x = w102.alloc (.cells #[.int .i64 0, .int .i64 0, .bool false, .slice none 0 0] 80) := ⟨_, rfl⟩
      obtain ⟨tb, htb⟩ : ∃ x, x = w102.heap.size := ⟨_, rfl⟩
      have hzb : w103.heap[tb]? = some (.cells #[.int .i64 0, .int .i64 0, .bool false, .slice none 0 0] 80 (0, 0)) := by rw [hnw, htb]; exact heap_alloc_new w102 _
      have hb9 : Below w102.heap.size w102 w103 := by rw [hnw]; exact below_alloc w102 _
      rw [← hnw, ← htb]
      have HTB : Hid (w.heap.size ≤ tb) := Lib.hid (by rw [htb]; exact HBw102.out.size)
      have HZw103 := Lib.hid hzb
      have HSw103 := Lib.hid (HSw102.out.on hb9)
      have HBw103 := Lib.hid (HBw102.out.trans (hb9.mono HBw102.out.size))
      clear hnw htb hzb hb9
      refine hK _ _ (fun _ _ => HSw103.out) ?_
      clear hK K
      try simp only [Act.put, List.getElem_toArray, List.getElem_cons_zero, List.getElem_cons_succ, List.setIfInBounds_toArray, List.set_cons_zero, List.set_cons_succ]
      refine wpAnyK_all (rs := [9]) (by kernel_rfl) (by simp) ?_
      intro ix hix
      simp only [List.mem_cons, List.not_mem_nil, or_false] at hix
      subst hix
      refine wpK_op (o := _) (by rfl) (fun K hK => ?_)
      have HBF := HBw103
      have HZF := HZw103
      have q0 : w103.cell? ⟨tb, 0, none⟩ = some (.int .i64 0) := (cell_of HZF.out 0).trans rfl
      have q1 : w103.cell? ⟨tb, 1, none⟩ = some (.int .i64 0) := (cell_of HZF.out 1).trans rfl
      have q2 : w103.cell? ⟨tb, 2, none⟩ = some (.bool false) := (cell_of HZF.out 2).trans rfl
      have q3 : w103.cell? ⟨tb, 3, none⟩ = some (.slice none 0 0) := (cell_of HZF.out 3).trans rfl
      have f0 := frozen_of HZF.out 0
      have f1 := frozen_of HZF.out 1
      have f2 := frozen_of HZF.out 2
      have f3 := frozen_of HZF.out 3
      go_simp
      refine hK _ _ (fun h => absurd h (by omega)) ?_
      clear hK K
      try simp only [Act.put, List.getElem_toArray, List.getElem_cons_zero, List.getElem_cons_succ, List.setIfInBounds_toArray, List.set_cons_zero, List.set_cons_succ]
      refine wpAnyK_done (by kernel_rfl) ?_ _
      exact HQ.out _ _ _ _ _ _ _ _ tb _ (below4 HBF.out HTB.out _ _ _ _) (set4 HZF.out _ _ _ _) HTB.out
    · refine wpK_op (o := _) (by rfl) (fun K hK => ?_)
      go_simp
      obtain ⟨w105, hnw⟩ : ∃ x : World, x = wd.alloc (.cells #[.int .i64 0, .int .i64 0, .bool false, .slice none 0 0] 80) := ⟨_, rfl⟩
      obtain ⟨tb, htb⟩ : ∃ x, x = wd.heap.size := ⟨_, rfl⟩
      have hzb : w105.heap[tb]? = some (.cells #[.int .i64 0, .int .i64 0, .bool false, .slice none 0 0] 80 (0, 0)) := by rw [hnw, htb]; exact heap_alloc_new wd _
      have hb9 : Below wd.heap.size wd w105 := by rw [hnw]; exact below_alloc wd _
      rw [← hnw, ← htb]
      have HTB : Hid (w.heap.size ≤ tb) := Lib.hid (by rw [htb]; exact HBwd.out.size)
      have HZw105 := Lib.hid hzb
      have HSw105 := Lib.hid (HSwd.out.on hb9)
      have HBw105 := Lib.hid (HBwd.out.trans (hb9.mono HBwd.out.size))
      clear hnw htb hzb hb9
      refine hK _ _ (fun _ _ => HSw105.out) ?_
      clear hK K
      try simp only [Act.put, List.getElem_toArray, List.getElem_cons_zero, List.getElem_cons_succ, List.setIfInBounds_toArray, List.set_cons_zero, List.set_cons_succ]
      refine wpAnyK_all (rs := [7]) (by kernel_rfl) (by simp) ?_
      intro ix hix
      simp only [List.mem_cons, List.not_mem_nil, or_false] at hix
      subst hix
      refine wpK_op (o := _) (by rfl) (fun K hK => ?_)
      go_simp
      go_at_call 35
      refine (HDO.out _ HBw105.out).mono ?_
      rintro e w106 ⟨rfl, hb9⟩
      unfold resV
      have HSw106 := Lib.hid (HSw105.out.on hb9)
      have HBw106 := Lib.hid (HBw105.out.trans (hb9.mono HBw105.out.size))
      have HZw106 := Lib.hid ((hb9.block tb (lt_of_heap HZw105.out)).trans HZw105.out)
      clear hb9
      refine hK _ _ (fun _ _ => HSw106.out) ?_
      clear hK K
      try simp only [Act.put, List.getElem_toArray, List.getElem_cons_zero, List.getElem_cons_succ, List.setIfInBounds_toArray, List.set_cons_zero, List.set_cons_succ]
      refine wpAnyK_all (rs := [9]) (by kernel_rfl) (by simp) ?_
      intro ix hix
      simp only [List.mem_cons, List.not_mem_nil, or_false] at hix
      subst hix
      refine wpK_op (o := _) (by rfl) (fun K hK => ?_)
      have HBF := HBw106
      have HZF := HZw106
      have q0 : w106.cell? ⟨tb, 0, none⟩ = some (.int .i64 0) := (cell_of HZF.out 0).trans rfl
      have q1 : w106.cell? ⟨tb, 1, none⟩ = some (.int .i64 0) := (cell_of HZF.out 1).trans rfl
      have q2 : w106.cell? ⟨tb, 2, none⟩ = some (.bool false) := (cell_of HZF.out 2).trans rfl
      have q3 : w106.cell? ⟨tb, 3, none⟩ = some (.slice none 0 0) := (cell_of HZF.out 3).trans rfl
      have f0 := frozen_of HZF.out 0
      have f1 := frozen_of HZF.out 1
      have f2 := frozen_of HZF.out 2
      have f3 := frozen_of HZF.out 3
      go_simp
      refine hK _ _ (fun h => absurd h (by omega)) ?_
      clear hK K
      try simp only [Act.put, List.getElem_toArray, List.getElem_cons_zero, List.getElem_cons_succ, List.setIfInBounds_toArray, List.set_cons_zero, List.set_cons_succ]
      refine wpAnyK_done (by kernel_rfl) ?_ _
      exact HQ.out _ _ _ _ _ _ _ _ tb _ (below4 HBF.out HTB.out _ _ _ _) (set4 HZF.out _ _ _ _) HTB.out
  · refine wpK_op (o := _) (by rfl) (fun K hK => ?_)
    go_simp
    obtain ⟨w108, hnw⟩ : ∃ x : World, x = wd.alloc (.cells #[.int .i64 0, .int .i64 0, .bool false, .slice none 0 0] 80) := ⟨_, rfl⟩
    obtain ⟨tb, htb⟩ : ∃ x, x = wd.heap.size := ⟨_, rfl⟩
    have hzb : w108.heap[tb]? = some (.cells #[.int .i64 0, .int .i64 0, .bool false, .slice none 0 0] 80 (0, 0)) := by rw [hnw, htb]; exact heap_alloc_new wd _
    have hb9 : Below wd.heap.size wd w108 := by rw [hnw]; exact below_alloc wd _
    rw [← hnw, ← htb]
    have HTB : Hid (w.heap.size ≤ tb) := Lib.hid (by rw [htb]; exact HBwd.out.size)
    have HZw108 := Lib.hid hzb
    have HSw108 := Lib.hid (HSwd.out.on hb9)
    have HBw108 := Lib.hid (HBwd.out.trans (hb9.mono HBwd.out.size))
    clear hnw htb hzb hb9
    refine hK _ _ (fun _ _ => HSw108.out) ?_
    clear hK K
    try simp only [Act.put, List.getElem_toArray, List.getElem_cons_zero, List.getElem_cons_succ, List.setIfInBounds_toArray, List.set_cons_zero, List.set_cons_succ]
    refine wpAnyK_all (rs := [4]) (by kernel_rfl) (by simp) ?_
    intro ix hix
    simp only [List.mem_cons, List.not_mem_nil, or_false] at hix
    subst hix
    refine wpK_op (o := _) (by rfl) (fun K hK => ?_)
    go_simp
    go_at_call 21
    refine (HWN.out _).mono ?_
    rintro e w9 ⟨rfl, hh⟩
    subst w9
    refine hK _ _ (fun _ _ => HSw108.out) ?_
    clear hK K
    try simp only [Act.put, List.getElem_toArray, List.getElem_cons_zero, List.getElem_cons_succ, List.setIfInBounds_toArray, List.set_cons_zero, List.set_cons_succ]
    refine wpAnyK_pure (i := 5) (oi := _) (v := ?_) (by rfl) (by kernel_rfl) (fun c a w h => HPN.out c a _ _ w h) (Or.inl ⟨by rfl, ?_⟩) ?_
    rotate_left 1
    · intro w' _
      go_simp
      all_goals with_reducible rfl
    simp only [Act.put, List.getElem_toArray, List.getElem_cons_zero, List.getElem_cons_succ, List.setIfInBounds_toArray, List.set_cons_zero, List.set_cons_succ]
    refine wpAnyK_all (rs := [7]) (by kernel_rfl) (by simp) ?_
    intro ix hix
    simp only [List.mem_cons, List.not_mem_nil, or_false] at hix
    subst hix
    refine wpK_op (o := _) (by rfl) (fun K hK => ?_)
    go_simp
    go_at_call 35
    refine (HDO.out _ HBw108.out).mono ?_
    rintro e w110 ⟨rfl, hb9⟩
    unfold resV
    have HSw110 := Lib.hid (HSw108.out.on hb9)
    have HBw110 := Lib.hid (HBw108.out.trans (hb9.mono HBw108.out.size))
    have HZw110 := Lib.hid ((hb9.block tb (lt_of_heap HZw108.out)).trans HZw108.out)
    clear hb9
    refine hK _ _ (fun _ _ => HSw110.out) ?_
    clear hK K
    try simp only [Act.put, List.getElem_toArray, List.getElem_cons_zero, List.getElem_cons_succ, List.setIfInBounds_toArray, List.set_cons_zero, List.set_cons_succ]
    refine wpAnyK_all (rs := [9]) (by kernel_rfl) (by simp) ?_
    intro ix hix
    simp only [List.mem_cons, List.not_mem_nil, or_false] at hix
    subst hix
    refine wpK_op (o := _) (by rfl) (fun K hK => ?_)
    have HBF := HBw110
    have HZF := HZw110
    have q0 : w110.cell? ⟨tb, 0, none⟩ = some (.int .i64 0) := (cell_of HZF.out 0).trans rfl
    have q1 : w110.cell? ⟨tb, 1, none⟩ = some (.int .i64 0) := (cell_of HZF.out 1).trans rfl
    have q2 : w110.cell? ⟨tb, 2, none⟩ = some (.bool false) := (cell_of HZF.out 2).trans rfl
    have q3 : w110.cell? ⟨tb, 3, none⟩ = some (.slice none 0 0) := (cell_of HZF.out 3).trans rfl
    have f0 := frozen_of HZF.out 0
    have f1 := frozen_of HZF.out 1
    have f2 := frozen_of HZF.out 2
    have f3 := frozen_of HZF.out 3
    go_simp
    refine hK _ _ (fun h => absurd h (by omega)) ?_
    clear hK K
    try simp only [Act.put, List.getElem_toArray, List.getElem_cons_zero, List.getElem_cons_succ, List.setIfInBounds_toArray, List.set_cons_zero, List.set_cons_succ]
    refine wpAnyK_done (by kernel_rfl) ?_ _
    exact HQ.out _ _ _ _ _ _ _ _ tb _ (below4 HBF.out HTB.out _ _ _ _) (set4 HZF.out _ _ _ _) HTB.out
end Go.Proofs.Ytndmpdpmfieacaa
