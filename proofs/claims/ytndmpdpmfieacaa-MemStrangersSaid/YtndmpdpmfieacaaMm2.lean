/-
  Accesses of a memory, kind by kind: 1, 2, 3, 4, 5, 6, 7, 8, 9, 10, 11, 12, 14, 15; conditions: what the callee does.
  Accesses of a memory by a client, kind by kind; conditions: what the callee does.
  A memory beside what a law makes: Alloc, Swap, Load by Do; conditions: lengths.
  A client's Alloc, Swap, Load on a memory beside what a law makes; conditions: lengths.
  Configurations and accesses by value, opened; conditions: lengths.
-/
import Derived.Test.YtndmpdpmfieacaaMm1
namespace Go.Proofs.Ytndmpdpmfieacaa
open Go.RowKit Go.WideShapes Go.ChangeShapes
set_option linter.all false
/-- What a perform's loads find. -/
structure SP (b a B E : Nat) (rf ac n was : Int) (A : Option Addr) (m c : Nat) (W : World) : Prop where
  s0 : W.cell? ⟨b, 0, none⟩ = some (.pointer (some ⟨B, 0, none⟩))
  s1 : W.cell? ⟨b, 1, none⟩ = some (.pointer (some ⟨E, 0, none⟩))
  t1 : W.cell? ⟨a, 1, none⟩ = some (.int .i64 rf)
  t2 : W.cell? ⟨a, 2, none⟩ = some (.int .i64 ac)
  t3 : W.cell? ⟨a, 3, none⟩ = some (.int .i64 n)
  t4 : W.cell? ⟨a, 4, none⟩ = some (.int .u64 was)
  t5 : W.cell? ⟨a, 5, none⟩ = some (.slice A m c)
set_option maxRecDepth 100000 in
set_option maxHeartbeats 1600000 in
/-- perform at the kind 1. -/
theorem perf1 {X : Option Addr → Nat → Nat → Int → World → Prop} {b B E k : Nat} {root hold : Int} {w : World} (hbox : w.heap[b]? = some (.cells #[.pointer (some ⟨B, 0, none⟩), .pointer (some ⟨E, 0, none⟩), .int .i64 root, .int .i64 (k : Nat), .int .i64 hold] 135 (0, 0))) (cl rf ac n was : Int) (A : Option Addr) (m c : Nat)
    (hc : ∀ W, Below w.heap.size w W → W.heap.size = w.heap.size + 2 → Calls Try.prog 16 #[.pointer (some ⟨B, 0, none⟩), .int .i64 rf] W fun e w' => ∃ A' m' c' er, e = .returned (.tuple #[.slice A' m' c', .int .i64 er]) ∧ W.heap.size ≤ w'.heap.size ∧ (∀ x, x = b ∨ w.heap.size ≤ x → x < W.heap.size → w'.heap[x]? = W.heap[x]?) ∧ X A' m' c' er w')
    (hX : ∀ A' m' c' er w' w'', X A' m' c' er w' → Al w.heap.size (w.heap.size + 2) w' w'' → X A' m' c' er w'') :
    Calls Try.prog 65 #[.pointer (some ⟨b, 0, none⟩), .int .i64 cl, accV 1 rf ac n was A m c] w fun e w' => ∃ A' m' c' er, e = .returned (resV er 0 false A' m' c') ∧ w.heap.size + 2 ≤ w'.heap.size ∧ X A' m' c' er w' := by
  obtain ⟨W1, hW1⟩ : ∃ W1 : World, W1 = w.alloc (.cells #[.int .i64 1, .int .i64 rf, .int .i64 ac, .int .i64 n, .int .u64 was, .slice A m c] 74) := ⟨_, rfl⟩
  have hb1 : Below w.heap.size w W1 := by rw [hW1]; exact below_alloc w _
  obtain ⟨a, ha⟩ : ∃ a, a = w.heap.size := ⟨_, rfl⟩
  have hh1 : W1.heap[a]? = some (.cells #[.int .i64 1, .int .i64 rf, .int .i64 ac, .int .i64 n, .int .u64 was, .slice A m c] 74 (0, 0)) := by rw [hW1, ha]; exact heap_alloc_new w _
  obtain ⟨W2, hW2⟩ : ∃ W2 : World, W2 = W1.alloc (.cells #[.int .i64 0, .int .i64 0, .bool false, .slice none 0 0] 80) := ⟨_, rfl⟩
  obtain ⟨q, hq⟩ : ∃ q, q = w.heap.size + 1 := ⟨_, rfl⟩
  have hqq : q = W1.heap.size := by rw [hW1, hq]; simp
  have hs2 : W2.heap.size = w.heap.size + 2 := by rw [hW2]; simp; omega
  have hh : W2.heap[q]? = some (.cells #[.int .i64 0, .int .i64 0, .bool false, .slice none 0 0] 80 (0, 0)) := by rw [hW2, hqq]; exact heap_alloc_new W1 _
  have hb2 : Below w.heap.size w W2 := by rw [hW2]; exact hb1.trans ((below_alloc W1 _).mono hb1.size)
  have hh2 : W2.heap[a]? = some (.cells #[.int .i64 1, .int .i64 rf, .int .i64 ac, .int .i64 n, .int .u64 was, .slice A m c] 74 (0, 0)) := by rw [hW2]; exact ((below_alloc W1 _).block _ (lt_of_heap hh1)).trans hh1
  have hbx : W2.heap[b]? = some (.cells #[.pointer (some ⟨B, 0, none⟩), .pointer (some ⟨E, 0, none⟩), .int .i64 root, .int .i64 (k : Nat), .int .i64 hold] 135 (0, 0)) := (hb2.block b (lt_of_heap hbox)).trans hbox
  have k0 : W2.cell? ⟨a, 0, none⟩ = some (.int .i64 1) := (cell_of hh2 0).trans rfl
  have HSP : Hid (SP b a B E rf ac n was A m c W2) := Lib.hid ⟨(cell_of hbx 0).trans rfl, (cell_of hbx 1).trans rfl, (cell_of hh2 1).trans rfl, (cell_of hh2 2).trans rfl, (cell_of hh2 3).trans rfl, (cell_of hh2 4).trans rfl, (cell_of hh2 5).trans rfl⟩
  have HSD : Hid (SP b a B E rf ac n was A m c W2.drew) := Lib.hid ⟨HSP.out.s0, HSP.out.s1, HSP.out.t1, HSP.out.t2, HSP.out.t3, HSP.out.t4, HSP.out.t5⟩
  have HX := Lib.hid hX
  have HC : Hid (∀ W, Below w.heap.size w W → W.heap.size = w.heap.size + 2 → Calls Try.prog 16 #[.pointer (some ⟨B, 0, none⟩), .int .i64 rf] W fun e w' => ∃ A' m' c' er, e = .returned (.tuple #[.slice A' m' c', .int .i64 er]) ∧ W.heap.size ≤ w'.heap.size ∧ (∀ x, x = b ∨ w.heap.size ≤ x → x < W.heap.size → w'.heap[x]? = W.heap[x]?) ∧ X A' m' c' er w') := Lib.hid hc
  have HW1 := Lib.hid hW1
  have HW2 := Lib.hid hW2
  have HQ := Lib.hid hq
  have HA := Lib.hid ha
  have HB2 := Lib.hid hb2
  have HS2 := Lib.hid hs2
  have HH := Lib.hid hh
  have HLB : Hid (b < W2.heap.size) := Lib.hid (lt_of_heap hbx)
  have HLA : Hid (a < W2.heap.size) := Lib.hid (lt_of_heap hh2)
  clear hbox hc hX hb1 hb2 hh hh1 hh2 hbx hW1 hW2 hq hqq hs2
  unfold accV
  go_enter Try.func65, Try.ntmps65
  go_upto_region 1 with (fail)
  rw [← HW1.out, ← HW2.out, ← HQ.out, ← HA.out]
  clear ha
  go_upto_region 4 with (fail)
  refine wp_region_K (SP b a B E rf ac n was A m c) 10 (by kernel_rfl) ?_
  refine wpAnyK_pure (i := 0) (oi := _) (v := ?_) (by rfl) (by kernel_rfl) (by intro _ _ _ h; exact h) (Or.inl ⟨by rfl, ?_⟩) ?_
  rotate_left 1
  · intro w' _
    go_simp
    all_goals with_reducible rfl
  simp only [Act.put, List.getElem_toArray, List.getElem_cons_zero, List.getElem_cons_succ, List.setIfInBounds_toArray, List.set_cons_zero, List.set_cons_succ]
  refine wpAnyK_pure (i := 1) (oi := _) (v := ?_) (by rfl) (by kernel_rfl) (by intro _ _ _ h; exact h) (Or.inl ⟨by rfl, ?_⟩) ?_
  rotate_left 1
  · intro w' _
    go_simp
    all_goals with_reducible rfl
  simp only [Act.put, List.getElem_toArray, List.getElem_cons_zero, List.getElem_cons_succ, List.setIfInBounds_toArray, List.set_cons_zero, List.set_cons_succ]
  refine wpAnyK_pure (i := 2) (oi := _) (v := ?_) (by rfl) (by kernel_rfl) (by intro _ _ _ h; exact h) (Or.inl ⟨by rfl, ?_⟩) ?_
  rotate_left 1
  · intro w' _
    go_simp
    all_goals with_reducible rfl
  simp only [Act.put, List.getElem_toArray, List.getElem_cons_zero, List.getElem_cons_succ, List.setIfInBounds_toArray, List.set_cons_zero, List.set_cons_succ]
  refine wpAnyK_take (i := 3) (oi := _) (v := ?_) (by rfl) (by kernel_rfl) (by intro _ _ _ h; exact h) HSD.out (Or.inl ⟨by rfl, ?_⟩) ?_
  rotate_left 1
  · intro w' hl
    have l0 := hl.s0
    have l1 := hl.s1
    have l2 := hl.t1
    have l3 := hl.t2
    have l4 := hl.t3
    have l5 := hl.t4
    have l6 := hl.t5
    clear hl
    go_simp
    all_goals with_reducible rfl
  simp only [Act.put, List.getElem_toArray, List.getElem_cons_zero, List.getElem_cons_succ, List.setIfInBounds_toArray, List.set_cons_zero, List.set_cons_succ]
  refine wpAnyK_pure (i := 4) (oi := _) (v := ?_) (by rfl) (by kernel_rfl) (by intro _ _ _ h; exact h) (Or.inl ⟨by rfl, ?_⟩) ?_
  rotate_left 1
  · intro w' _
    go_simp
    all_goals with_reducible rfl
  simp only [Act.put, List.getElem_toArray, List.getElem_cons_zero, List.getElem_cons_succ, List.setIfInBounds_toArray, List.set_cons_zero, List.set_cons_succ]
  refine wpAnyK_take (i := 5) (oi := _) (v := ?_) (by rfl) (by kernel_rfl) (by intro _ _ _ h; exact h) HSD.out (Or.inl ⟨by rfl, ?_⟩) ?_
  rotate_left 1
  · intro w' hl
    have l0 := hl.s0
    have l1 := hl.s1
    have l2 := hl.t1
    have l3 := hl.t2
    have l4 := hl.t3
    have l5 := hl.t4
    have l6 := hl.t5
    clear hl
    go_simp
    all_goals with_reducible rfl
  simp only [Act.put, List.getElem_toArray, List.getElem_cons_zero, List.getElem_cons_succ, List.setIfInBounds_toArray, List.set_cons_zero, List.set_cons_succ]
  refine wpAnyK_all (rs := [6]) (by kernel_rfl) (by simp) ?_
  intro ix hix
  simp only [List.mem_cons, List.not_mem_nil, or_false] at hix
  subst hix
  refine wpK_op (o := _) (by rfl) (fun K hK => ?_)
  go_simp
  go_at_call 16
  refine (HC.out _ (HB2.out.trans ((below_drew _).mono HB2.out.size)) HS2.out).mono ?_
  rintro e w3 ⟨A', m', c', er, rfl, hsz, hkp, hx⟩
  have HS3 : Hid (SP b a B E rf ac n was A m c w3) := Lib.hid (by
    have hS := HSP.out
    have e1 : w3.heap[b]? = W2.heap[b]? := hkp b (.inl rfl) HLB.out
    have e2 : w3.heap[a]? = W2.heap[a]? := hkp a (.inr (by have := HA.out; omega)) HLA.out
    exact ⟨(World.cell?_of_block (a := ⟨b, 0, none⟩) e1).trans hS.s0, (World.cell?_of_block (a := ⟨b, 1, none⟩) e1).trans hS.s1, (World.cell?_of_block (a := ⟨a, 1, none⟩) e2).trans hS.t1, (World.cell?_of_block (a := ⟨a, 2, none⟩) e2).trans hS.t2, (World.cell?_of_block (a := ⟨a, 3, none⟩) e2).trans hS.t3, (World.cell?_of_block (a := ⟨a, 4, none⟩) e2).trans hS.t4, (World.cell?_of_block (a := ⟨a, 5, none⟩) e2).trans hS.t5⟩)
  have HH3 : Hid (w3.heap[q]? = some (.cells #[.int .i64 0, .int .i64 0, .bool false, .slice none 0 0] 80 (0, 0))) := Lib.hid ((hkp q (by first | exact .inr (by have := HQ.out; omega) | (have := HQ.out; omega)) (by have := HQ.out; have := HS2.out; first | omega | (show q < W2.heap.size; omega))).trans HH.out)
  have HXX := Lib.hid hx
  have HSZ : Hid (w.heap.size + 2 ≤ w3.heap.size) := Lib.hid (by have := HS2.out; first | omega | (have h9 : W2.heap.size ≤ w3.heap.size := hsz; omega))
  refine hK _ _ (fun _ _ => HS3.out) ?_
  clear hK K
  try simp only [Act.put, List.getElem_toArray, List.getElem_cons_zero, List.getElem_cons_succ, List.setIfInBounds_toArray, List.set_cons_zero, List.set_cons_succ]
  clear hsz hkp hx
  refine wpAnyK_pure (i := 7) (oi := _) (v := ?_) (by rfl) (by kernel_rfl) (by intro _ _ _ h; exact h) (Or.inl ⟨by rfl, ?_⟩) ?_
  rotate_left 1
  · intro w' _
    go_simp
    all_goals with_reducible rfl
  simp only [Act.put, List.getElem_toArray, List.getElem_cons_zero, List.getElem_cons_succ, List.setIfInBounds_toArray, List.set_cons_zero, List.set_cons_succ]
  refine wpAnyK_pure (i := 8) (oi := _) (v := ?_) (by rfl) (by kernel_rfl) (by intro _ _ _ h; exact h) (Or.inl ⟨by rfl, ?_⟩) ?_
  rotate_left 1
  · intro w' _
    go_simp
    all_goals with_reducible rfl
  simp only [Act.put, List.getElem_toArray, List.getElem_cons_zero, List.getElem_cons_succ, List.setIfInBounds_toArray, List.set_cons_zero, List.set_cons_succ]
  refine wpAnyK_pure (i := 9) (oi := _) (v := ?_) (by rfl) (by kernel_rfl) (by intro _ _ _ h; exact h) (Or.inl ⟨by rfl, ?_⟩) ?_
  rotate_left 1
  · intro w' _
    go_simp
    all_goals with_reducible rfl
  simp only [Act.put, List.getElem_toArray, List.getElem_cons_zero, List.getElem_cons_succ, List.setIfInBounds_toArray, List.set_cons_zero, List.set_cons_succ]
  refine wpAnyK_pure (i := 10) (oi := _) (v := ?_) (by rfl) (by kernel_rfl) (by intro _ _ _ h; exact h) (Or.inl ⟨by rfl, ?_⟩) ?_
  rotate_left 1
  · intro w' _
    go_simp
    all_goals with_reducible rfl
  simp only [Act.put, List.getElem_toArray, List.getElem_cons_zero, List.getElem_cons_succ, List.setIfInBounds_toArray, List.set_cons_zero, List.set_cons_succ]
  have q0 : w3.cell? ⟨q, 0, none⟩ = some (.int .i64 0) := (cell_of HH3.out 0).trans rfl
  have q1 : w3.cell? ⟨q, 1, none⟩ = some (.int .i64 0) := (cell_of HH3.out 1).trans rfl
  have q2 : w3.cell? ⟨q, 2, none⟩ = some (.bool false) := (cell_of HH3.out 2).trans rfl
  have q3 : w3.cell? ⟨q, 3, none⟩ = some (.slice none 0 0) := (cell_of HH3.out 3).trans rfl
  have f0 := frozen_of HH3.out 0
  have f1 := frozen_of HH3.out 1
  have f2 := frozen_of HH3.out 2
  have f3 := frozen_of HH3.out 3
  refine wpAnyK_all (rs := [11]) (by kernel_rfl) (by simp) ?_
  intro ix hix
  simp only [List.mem_cons, List.not_mem_nil, or_false] at hix
  subst hix
  refine wpK_op (o := _) (by rfl) (fun K hK => ?_)
  go_simp
  refine hK _ _ (fun h => absurd h (by omega)) ?_
  clear hK K
  try simp only [Act.put, List.getElem_toArray, List.getElem_cons_zero, List.getElem_cons_succ, List.setIfInBounds_toArray, List.set_cons_zero, List.set_cons_succ]
  refine wpAnyK_pure (i := 12) (oi := _) (v := ?_) (by rfl) (by kernel_rfl) (by intro _ _ _ h; exact h) (Or.inl ⟨by rfl, ?_⟩) ?_
  rotate_left 1
  · intro w' _
    go_simp
    all_goals with_reducible rfl
  simp only [Act.put, List.getElem_toArray, List.getElem_cons_zero, List.getElem_cons_succ, List.setIfInBounds_toArray, List.set_cons_zero, List.set_cons_succ]
  refine wpAnyK_all (rs := [13]) (by kernel_rfl) (by simp) ?_
  intro ix hix
  simp only [List.mem_cons, List.not_mem_nil, or_false] at hix
  subst hix
  refine wpK_op (o := _) (by rfl) (fun K hK => ?_)
  go_simp
  refine hK _ _ (fun h => absurd h (by omega)) ?_
  clear hK K
  try simp only [Act.put, List.getElem_toArray, List.getElem_cons_zero, List.getElem_cons_succ, List.setIfInBounds_toArray, List.set_cons_zero, List.set_cons_succ]
  refine wpAnyK_done (by kernel_rfl) ?_ _
  have h4 := (heap_setCell_same _ _ 0 _ _ (.int .i64 er) ((heap_setCell_same _ _ 3 _ _ (.slice A' m' c') (HH3.out))))
  have hal := ((((Al.refl w.heap.size (w.heap.size + 2) w3).set (a := ⟨q, 3, none⟩) (by show w.heap.size ≤ q; have := HQ.out; omega) (by show q < w.heap.size + 2; have := HQ.out; omega) (.slice A' m' c'))).set (a := ⟨q, 0, none⟩) (by show w.heap.size ≤ q; have := HQ.out; omega) (by show q < w.heap.size + 2; have := HQ.out; omega) (.int .i64 er))
  try clear q0 q1 q2 q3 f0 f1 f2 f3
  generalize ((w3.setCell ⟨q, 3, none⟩ (.slice A' m' c')).setCell ⟨q, 0, none⟩ (.int .i64 er)) = w4 at *
  have q0 : w4.cell? ⟨q, 0, none⟩ = some (.int .i64 er) := (cell_of h4 0).trans rfl
  have q1 : w4.cell? ⟨q, 1, none⟩ = some (.int .i64 0) := (cell_of h4 1).trans rfl
  have q2 : w4.cell? ⟨q, 2, none⟩ = some (.bool false) := (cell_of h4 2).trans rfl
  have q3 : w4.cell? ⟨q, 3, none⟩ = some (.slice A' m' c') := (cell_of h4 3).trans rfl
  have f0 := frozen_of h4 0
  have f1 := frozen_of h4 1
  have f2 := frozen_of h4 2
  have f3 := frozen_of h4 3
  have H4 := Lib.hid h4
  have HAL := Lib.hid hal
  clear h4 hal
  go_wp2
  have hh := set4 H4.out (.int .i64 er) (.int .i64 0) (.bool false) (.slice A' m' c')
  have hal := HAL.out.set4 (q := q) (by have := HQ.out; omega) (by have := HQ.out; omega) (.int .i64 er) (.int .i64 0) (.bool false) (.slice A' m' c')
  generalize ((((w4.setCell ⟨q, 0, none⟩ (.int .i64 er)).setCell ⟨q, 1, none⟩ (.int .i64 0)).setCell ⟨q, 2, none⟩ (.bool false)).setCell ⟨q, 3, none⟩ (.slice A' m' c')) = W5 at *
  have p0 : W5.cell? ⟨q, 0, none⟩ = some (.int .i64 er) := (cell_of hh 0).trans rfl
  have p1 : W5.cell? ⟨q, 1, none⟩ = some (.int .i64 0) := (cell_of hh 1).trans rfl
  have p2 : W5.cell? ⟨q, 2, none⟩ = some (.bool false) := (cell_of hh 2).trans rfl
  have p3 : W5.cell? ⟨q, 3, none⟩ = some (.slice A' m' c') := (cell_of hh 3).trans rfl
  exact bodyPost_ret (v := resV er 0 false A' m' c') (by simp [results, Try.results65, go_sem, p0, p1, p2, p3, resV]) rfl ⟨A', m', c', er, rfl, by have := hal.size; have := HSZ.out; omega, HX.out _ _ _ _ _ _ HXX.out hal⟩
set_option maxRecDepth 100000 in
set_option maxHeartbeats 1600000 in
/-- perform at the kind 2. -/
theorem perf2 {X : Bool → Int → World → Prop} {b B E k : Nat} {root hold : Int} {w : World} (hbox : w.heap[b]? = some (.cells #[.pointer (some ⟨B, 0, none⟩), .pointer (some ⟨E, 0, none⟩), .int .i64 root, .int .i64 (k : Nat), .int .i64 hold] 135 (0, 0))) (cl rf ac n was : Int) (A : Option Addr) (m c : Nat)
    (hc : ∀ W, Below w.heap.size w W → W.heap.size = w.heap.size + 2 → Calls Try.prog 17 #[.pointer (some ⟨B, 0, none⟩), .int .i64 rf, .int .u64 was, .slice A m c] W fun e w' => ∃ ok er, e = .returned (.tuple #[.bool ok, .int .i64 er]) ∧ W.heap.size ≤ w'.heap.size ∧ (∀ x, x = b ∨ w.heap.size ≤ x → x < W.heap.size → w'.heap[x]? = W.heap[x]?) ∧ X ok er w')
    (hX : ∀ ok er w' w'', X ok er w' → Al w.heap.size (w.heap.size + 2) w' w'' → X ok er w'') :
    Calls Try.prog 65 #[.pointer (some ⟨b, 0, none⟩), .int .i64 cl, accV 2 rf ac n was A m c] w fun e w' => ∃ ok er, e = .returned (resV er 0 ok none 0 0) ∧ w.heap.size + 2 ≤ w'.heap.size ∧ X ok er w' := by
  obtain ⟨W1, hW1⟩ : ∃ W1 : World, W1 = w.alloc (.cells #[.int .i64 2, .int .i64 rf, .int .i64 ac, .int .i64 n, .int .u64 was, .slice A m c] 74) := ⟨_, rfl⟩
  have hb1 : Below w.heap.size w W1 := by rw [hW1]; exact below_alloc w _
  obtain ⟨a, ha⟩ : ∃ a, a = w.heap.size := ⟨_, rfl⟩
  have hh1 : W1.heap[a]? = some (.cells #[.int .i64 2, .int .i64 rf, .int .i64 ac, .int .i64 n, .int .u64 was, .slice A m c] 74 (0, 0)) := by rw [hW1, ha]; exact heap_alloc_new w _
  obtain ⟨W2, hW2⟩ : ∃ W2 : World, W2 = W1.alloc (.cells #[.int .i64 0, .int .i64 0, .bool false, .slice none 0 0] 80) := ⟨_, rfl⟩
  obtain ⟨q, hq⟩ : ∃ q, q = w.heap.size + 1 := ⟨_, rfl⟩
  have hqq : q = W1.heap.size := by rw [hW1, hq]; simp
  have hs2 : W2.heap.size = w.heap.size + 2 := by rw [hW2]; simp; omega
  have hh : W2.heap[q]? = some (.cells #[.int .i64 0, .int .i64 0, .bool false, .slice none 0 0] 80 (0, 0)) := by rw [hW2, hqq]; exact heap_alloc_new W1 _
  have hb2 : Below w.heap.size w W2 := by rw [hW2]; exact hb1.trans ((below_alloc W1 _).mono hb1.size)
  have hh2 : W2.heap[a]? = some (.cells #[.int .i64 2, .int .i64 rf, .int .i64 ac, .int .i64 n, .int .u64 was, .slice A m c] 74 (0, 0)) := by rw [hW2]; exact ((below_alloc W1 _).block _ (lt_of_heap hh1)).trans hh1
  have hbx : W2.heap[b]? = some (.cells #[.pointer (some ⟨B, 0, none⟩), .pointer (some ⟨E, 0, none⟩), .int .i64 root, .int .i64 (k : Nat), .int .i64 hold] 135 (0, 0)) := (hb2.block b (lt_of_heap hbox)).trans hbox
  have k0 : W2.cell? ⟨a, 0, none⟩ = some (.int .i64 2) := (cell_of hh2 0).trans rfl
  have HSP : Hid (SP b a B E rf ac n was A m c W2) := Lib.hid ⟨(cell_of hbx 0).trans rfl, (cell_of hbx 1).trans rfl, (cell_of hh2 1).trans rfl, (cell_of hh2 2).trans rfl, (cell_of hh2 3).trans rfl, (cell_of hh2 4).trans rfl, (cell_of hh2 5).trans rfl⟩
  have HSD : Hid (SP b a B E rf ac n was A m c W2.drew) := Lib.hid ⟨HSP.out.s0, HSP.out.s1, HSP.out.t1, HSP.out.t2, HSP.out.t3, HSP.out.t4, HSP.out.t5⟩
  have HX := Lib.hid hX
  have HC : Hid (∀ W, Below w.heap.size w W → W.heap.size = w.heap.size + 2 → Calls Try.prog 17 #[.pointer (some ⟨B, 0, none⟩), .int .i64 rf, .int .u64 was, .slice A m c] W fun e w' => ∃ ok er, e = .returned (.tuple #[.bool ok, .int .i64 er]) ∧ W.heap.size ≤ w'.heap.size ∧ (∀ x, x = b ∨ w.heap.size ≤ x → x < W.heap.size → w'.heap[x]? = W.heap[x]?) ∧ X ok er w') := Lib.hid hc
  have HW1 := Lib.hid hW1
  have HW2 := Lib.hid hW2
  have HQ := Lib.hid hq
  have HA := Lib.hid ha
  have HB2 := Lib.hid hb2
  have HS2 := Lib.hid hs2
  have HH := Lib.hid hh
  have HLB : Hid (b < W2.heap.size) := Lib.hid (lt_of_heap hbx)
  have HLA : Hid (a < W2.heap.size) := Lib.hid (lt_of_heap hh2)
  clear hbox hc hX hb1 hb2 hh hh1 hh2 hbx hW1 hW2 hq hqq hs2
  unfold accV
  go_enter Try.func65, Try.ntmps65
  go_upto_region 1 with (fail)
  rw [← HW1.out, ← HW2.out, ← HQ.out, ← HA.out]
  clear ha
  go_upto_region 6 with (fail)
  refine wp_region_K (SP b a B E rf ac n was A m c) 14 (by kernel_rfl) ?_
  refine wpAnyK_pure (i := 0) (oi := _) (v := ?_) (by rfl) (by kernel_rfl) (by intro _ _ _ h; exact h) (Or.inl ⟨by rfl, ?_⟩) ?_
  rotate_left 1
  · intro w' _
    go_simp
    all_goals with_reducible rfl
  simp only [Act.put, List.getElem_toArray, List.getElem_cons_zero, List.getElem_cons_succ, List.setIfInBounds_toArray, List.set_cons_zero, List.set_cons_succ]
  refine wpAnyK_pure (i := 1) (oi := _) (v := ?_) (by rfl) (by kernel_rfl) (by intro _ _ _ h; exact h) (Or.inl ⟨by rfl, ?_⟩) ?_
  rotate_left 1
  · intro w' _
    go_simp
    all_goals with_reducible rfl
  simp only [Act.put, List.getElem_toArray, List.getElem_cons_zero, List.getElem_cons_succ, List.setIfInBounds_toArray, List.set_cons_zero, List.set_cons_succ]
  refine wpAnyK_pure (i := 2) (oi := _) (v := ?_) (by rfl) (by kernel_rfl) (by intro _ _ _ h; exact h) (Or.inl ⟨by rfl, ?_⟩) ?_
  rotate_left 1
  · intro w' _
    go_simp
    all_goals with_reducible rfl
  simp only [Act.put, List.getElem_toArray, List.getElem_cons_zero, List.getElem_cons_succ, List.setIfInBounds_toArray, List.set_cons_zero, List.set_cons_succ]
  refine wpAnyK_take (i := 3) (oi := _) (v := ?_) (by rfl) (by kernel_rfl) (by intro _ _ _ h; exact h) HSD.out (Or.inl ⟨by rfl, ?_⟩) ?_
  rotate_left 1
  · intro w' hl
    have l0 := hl.s0
    have l1 := hl.s1
    have l2 := hl.t1
    have l3 := hl.t2
    have l4 := hl.t3
    have l5 := hl.t4
    have l6 := hl.t5
    clear hl
    go_simp
    all_goals with_reducible rfl
  simp only [Act.put, List.getElem_toArray, List.getElem_cons_zero, List.getElem_cons_succ, List.setIfInBounds_toArray, List.set_cons_zero, List.set_cons_succ]
  refine wpAnyK_pure (i := 4) (oi := _) (v := ?_) (by rfl) (by kernel_rfl) (by intro _ _ _ h; exact h) (Or.inl ⟨by rfl, ?_⟩) ?_
  rotate_left 1
  · intro w' _
    go_simp
    all_goals with_reducible rfl
  simp only [Act.put, List.getElem_toArray, List.getElem_cons_zero, List.getElem_cons_succ, List.setIfInBounds_toArray, List.set_cons_zero, List.set_cons_succ]
  refine wpAnyK_take (i := 5) (oi := _) (v := ?_) (by rfl) (by kernel_rfl) (by intro _ _ _ h; exact h) HSD.out (Or.inl ⟨by rfl, ?_⟩) ?_
  rotate_left 1
  · intro w' hl
    have l0 := hl.s0
    have l1 := hl.s1
    have l2 := hl.t1
    have l3 := hl.t2
    have l4 := hl.t3
    have l5 := hl.t4
    have l6 := hl.t5
    clear hl
    go_simp
    all_goals with_reducible rfl
  simp only [Act.put, List.getElem_toArray, List.getElem_cons_zero, List.getElem_cons_succ, List.setIfInBounds_toArray, List.set_cons_zero, List.set_cons_succ]
  refine wpAnyK_pure (i := 6) (oi := _) (v := ?_) (by rfl) (by kernel_rfl) (by intro _ _ _ h; exact h) (Or.inl ⟨by rfl, ?_⟩) ?_
  rotate_left 1
  · intro w' _
    go_simp
    all_goals with_reducible rfl
  simp only [Act.put, List.getElem_toArray, List.getElem_cons_zero, List.getElem_cons_succ, List.setIfInBounds_toArray, List.set_cons_zero, List.set_cons_succ]
  refine wpAnyK_take (i := 7) (oi := _) (v := ?_) (by rfl) (by kernel_rfl) (by intro _ _ _ h; exact h) HSD.out (Or.inl ⟨by rfl, ?_⟩) ?_
  rotate_left 1
  · intro w' hl
    have l0 := hl.s0
    have l1 := hl.s1
    have l2 := hl.t1
    have l3 := hl.t2
    have l4 := hl.t3
    have l5 := hl.t4
    have l6 := hl.t5
    clear hl
    go_simp
    all_goals with_reducible rfl
  simp only [Act.put, List.getElem_toArray, List.getElem_cons_zero, List.getElem_cons_succ, List.setIfInBounds_toArray, List.set_cons_zero, List.set_cons_succ]
  refine wpAnyK_pure (i := 8) (oi := _) (v := ?_) (by rfl) (by kernel_rfl) (by intro _ _ _ h; exact h) (Or.inl ⟨by rfl, ?_⟩) ?_
  rotate_left 1
  · intro w' _
    go_simp
    all_goals with_reducible rfl
  simp only [Act.put, List.getElem_toArray, List.getElem_cons_zero, List.getElem_cons_succ, List.setIfInBounds_toArray, List.set_cons_zero, List.set_cons_succ]
  refine wpAnyK_take (i := 9) (oi := _) (v := ?_) (by rfl) (by kernel_rfl) (by intro _ _ _ h; exact h) HSD.out (Or.inl ⟨by rfl, ?_⟩) ?_
  rotate_left 1
  · intro w' hl
    have l0 := hl.s0
    have l1 := hl.s1
    have l2 := hl.t1
    have l3 := hl.t2
    have l4 := hl.t3
    have l5 := hl.t4
    have l6 := hl.t5
    clear hl
    go_simp
    all_goals with_reducible rfl
  simp only [Act.put, List.getElem_toArray, List.getElem_cons_zero, List.getElem_cons_succ, List.setIfInBounds_toArray, List.set_cons_zero, List.set_cons_succ]
  refine wpAnyK_all (rs := [10]) (by kernel_rfl) (by simp) ?_
  intro ix hix
  simp only [List.mem_cons, List.not_mem_nil, or_false] at hix
  subst hix
  refine wpK_op (o := _) (by rfl) (fun K hK => ?_)
  go_simp
  go_at_call 17
  refine (HC.out _ (HB2.out.trans ((below_drew _).mono HB2.out.size)) HS2.out).mono ?_
  rintro e w3 ⟨ok, er, rfl, hsz, hkp, hx⟩
  have HS3 : Hid (SP b a B E rf ac n was A m c w3) := Lib.hid (by
    have hS := HSP.out
    have e1 : w3.heap[b]? = W2.heap[b]? := hkp b (.inl rfl) HLB.out
    have e2 : w3.heap[a]? = W2.heap[a]? := hkp a (.inr (by have := HA.out; omega)) HLA.out
    exact ⟨(World.cell?_of_block (a := ⟨b, 0, none⟩) e1).trans hS.s0, (World.cell?_of_block (a := ⟨b, 1, none⟩) e1).trans hS.s1, (World.cell?_of_block (a := ⟨a, 1, none⟩) e2).trans hS.t1, (World.cell?_of_block (a := ⟨a, 2, none⟩) e2).trans hS.t2, (World.cell?_of_block (a := ⟨a, 3, none⟩) e2).trans hS.t3, (World.cell?_of_block (a := ⟨a, 4, none⟩) e2).trans hS.t4, (World.cell?_of_block (a := ⟨a, 5, none⟩) e2).trans hS.t5⟩)
  have HH3 : Hid (w3.heap[q]? = some (.cells #[.int .i64 0, .int .i64 0, .bool false, .slice none 0 0] 80 (0, 0))) := Lib.hid ((hkp q (by first | exact .inr (by have := HQ.out; omega) | (have := HQ.out; omega)) (by have := HQ.out; have := HS2.out; first | omega | (show q < W2.heap.size; omega))).trans HH.out)
  have HXX := Lib.hid hx
  have HSZ : Hid (w.heap.size + 2 ≤ w3.heap.size) := Lib.hid (by have := HS2.out; first | omega | (have h9 : W2.heap.size ≤ w3.heap.size := hsz; omega))
  refine hK _ _ (fun _ _ => HS3.out) ?_
  clear hK K
  try simp only [Act.put, List.getElem_toArray, List.getElem_cons_zero, List.getElem_cons_succ, List.setIfInBounds_toArray, List.set_cons_zero, List.set_cons_succ]
  clear hsz hkp hx
  refine wpAnyK_pure (i := 11) (oi := _) (v := ?_) (by rfl) (by kernel_rfl) (by intro _ _ _ h; exact h) (Or.inl ⟨by rfl, ?_⟩) ?_
  rotate_left 1
  · intro w' _
    go_simp
    all_goals with_reducible rfl
  simp only [Act.put, List.getElem_toArray, List.getElem_cons_zero, List.getElem_cons_succ, List.setIfInBounds_toArray, List.set_cons_zero, List.set_cons_succ]
  refine wpAnyK_pure (i := 12) (oi := _) (v := ?_) (by rfl) (by kernel_rfl) (by intro _ _ _ h; exact h) (Or.inl ⟨by rfl, ?_⟩) ?_
  rotate_left 1
  · intro w' _
    go_simp
    all_goals with_reducible rfl
  simp only [Act.put, List.getElem_toArray, List.getElem_cons_zero, List.getElem_cons_succ, List.setIfInBounds_toArray, List.set_cons_zero, List.set_cons_succ]
  refine wpAnyK_pure (i := 13) (oi := _) (v := ?_) (by rfl) (by kernel_rfl) (by intro _ _ _ h; exact h) (Or.inl ⟨by rfl, ?_⟩) ?_
  rotate_left 1
  · intro w' _
    go_simp
    all_goals with_reducible rfl
  simp only [Act.put, List.getElem_toArray, List.getElem_cons_zero, List.getElem_cons_succ, List.setIfInBounds_toArray, List.set_cons_zero, List.set_cons_succ]
  refine wpAnyK_pure (i := 14) (oi := _) (v := ?_) (by rfl) (by kernel_rfl) (by intro _ _ _ h; exact h) (Or.inl ⟨by rfl, ?_⟩) ?_
  rotate_left 1
  · intro w' _
    go_simp
    all_goals with_reducible rfl
  simp only [Act.put, List.getElem_toArray, List.getElem_cons_zero, List.getElem_cons_succ, List.setIfInBounds_toArray, List.set_cons_zero, List.set_cons_succ]
  have q0 : w3.cell? ⟨q, 0, none⟩ = some (.int .i64 0) := (cell_of HH3.out 0).trans rfl
  have q1 : w3.cell? ⟨q, 1, none⟩ = some (.int .i64 0) := (cell_of HH3.out 1).trans rfl
  have q2 : w3.cell? ⟨q, 2, none⟩ = some (.bool false) := (cell_of HH3.out 2).trans rfl
  have q3 : w3.cell? ⟨q, 3, none⟩ = some (.slice none 0 0) := (cell_of HH3.out 3).trans rfl
  have f0 := frozen_of HH3.out 0
  have f1 := frozen_of HH3.out 1
  have f2 := frozen_of HH3.out 2
  have f3 := frozen_of HH3.out 3
  refine wpAnyK_all (rs := [15]) (by kernel_rfl) (by simp) ?_
  intro ix hix
  simp only [List.mem_cons, List.not_mem_nil, or_false] at hix
  subst hix
  refine wpK_op (o := _) (by rfl) (fun K hK => ?_)
  go_simp
  refine hK _ _ (fun h => absurd h (by omega)) ?_
  clear hK K
  try simp only [Act.put, List.getElem_toArray, List.getElem_cons_zero, List.getElem_cons_succ, List.setIfInBounds_toArray, List.set_cons_zero, List.set_cons_succ]
  refine wpAnyK_pure (i := 16) (oi := _) (v := ?_) (by rfl) (by kernel_rfl) (by intro _ _ _ h; exact h) (Or.inl ⟨by rfl, ?_⟩) ?_
  rotate_left 1
  · intro w' _
    go_simp
    all_goals with_reducible rfl
  simp only [Act.put, List.getElem_toArray, List.getElem_cons_zero, List.getElem_cons_succ, List.setIfInBounds_toArray, List.set_cons_zero, List.set_cons_succ]
  refine wpAnyK_all (rs := [17]) (by kernel_rfl) (by simp) ?_
  intro ix hix
  simp only [List.mem_cons, List.not_mem_nil, or_false] at hix
  subst hix
  refine wpK_op (o := _) (by rfl) (fun K hK => ?_)
  go_simp
  refine hK _ _ (fun h => absurd h (by omega)) ?_
  clear hK K
  try simp only [Act.put, List.getElem_toArray, List.getElem_cons_zero, List.getElem_cons_succ, List.setIfInBounds_toArray, List.set_cons_zero, List.set_cons_succ]
  refine wpAnyK_done (by kernel_rfl) ?_ _
  have h4 := (heap_setCell_same _ _ 0 _ _ (.int .i64 er) ((heap_setCell_same _ _ 2 _ _ (.bool ok) (HH3.out))))
  have hal := ((((Al.refl w.heap.size (w.heap.size + 2) w3).set (a := ⟨q, 2, none⟩) (by show w.heap.size ≤ q; have := HQ.out; omega) (by show q < w.heap.size + 2; have := HQ.out; omega) (.bool ok))).set (a := ⟨q, 0, none⟩) (by show w.heap.size ≤ q; have := HQ.out; omega) (by show q < w.heap.size + 2; have := HQ.out; omega) (.int .i64 er))
  try clear q0 q1 q2 q3 f0 f1 f2 f3
  generalize ((w3.setCell ⟨q, 2, none⟩ (.bool ok)).setCell ⟨q, 0, none⟩ (.int .i64 er)) = w4 at *
  have q0 : w4.cell? ⟨q, 0, none⟩ = some (.int .i64 er) := (cell_of h4 0).trans rfl
  have q1 : w4.cell? ⟨q, 1, none⟩ = some (.int .i64 0) := (cell_of h4 1).trans rfl
  have q2 : w4.cell? ⟨q, 2, none⟩ = some (.bool ok) := (cell_of h4 2).trans rfl
  have q3 : w4.cell? ⟨q, 3, none⟩ = some (.slice none 0 0) := (cell_of h4 3).trans rfl
  have f0 := frozen_of h4 0
  have f1 := frozen_of h4 1
  have f2 := frozen_of h4 2
  have f3 := frozen_of h4 3
  have H4 := Lib.hid h4
  have HAL := Lib.hid hal
  clear h4 hal
  go_wp2
  have hh := set4 H4.out (.int .i64 er) (.int .i64 0) (.bool ok) (.slice none 0 0)
  have hal := HAL.out.set4 (q := q) (by have := HQ.out; omega) (by have := HQ.out; omega) (.int .i64 er) (.int .i64 0) (.bool ok) (.slice none 0 0)
  generalize ((((w4.setCell ⟨q, 0, none⟩ (.int .i64 er)).setCell ⟨q, 1, none⟩ (.int .i64 0)).setCell ⟨q, 2, none⟩ (.bool ok)).setCell ⟨q, 3, none⟩ (.slice none 0 0)) = W5 at *
  have p0 : W5.cell? ⟨q, 0, none⟩ = some (.int .i64 er) := (cell_of hh 0).trans rfl
  have p1 : W5.cell? ⟨q, 1, none⟩ = some (.int .i64 0) := (cell_of hh 1).trans rfl
  have p2 : W5.cell? ⟨q, 2, none⟩ = some (.bool ok) := (cell_of hh 2).trans rfl
  have p3 : W5.cell? ⟨q, 3, none⟩ = some (.slice none 0 0) := (cell_of hh 3).trans rfl
  exact bodyPost_ret (v := resV er 0 ok none 0 0) (by simp [results, Try.results65, go_sem, p0, p1, p2, p3, resV]) rfl ⟨ok, er, rfl, by have := hal.size; have := HSZ.out; omega, HX.out _ _ _ _ HXX.out hal⟩
set_option maxRecDepth 100000 in
set_option maxHeartbeats 1600000 in
/-- perform at the kind 3. -/
theorem perf3 {X : Int → World → Prop} {b B E k : Nat} {root hold : Int} {w : World} (hbox : w.heap[b]? = some (.cells #[.pointer (some ⟨B, 0, none⟩), .pointer (some ⟨E, 0, none⟩), .int .i64 root, .int .i64 (k : Nat), .int .i64 hold] 135 (0, 0))) (cl rf ac n was : Int) (A : Option Addr) (m c : Nat)
    (hc : ∀ W, Below w.heap.size w W → W.heap.size = w.heap.size + 2 → Calls Try.prog 19 #[.pointer (some ⟨B, 0, none⟩), .int .i64 rf, .slice A m c] W fun e w' => ∃ er, e = .returned (.int .i64 er) ∧ W.heap.size ≤ w'.heap.size ∧ (∀ x, x = b ∨ w.heap.size ≤ x → x < W.heap.size → w'.heap[x]? = W.heap[x]?) ∧ X er w')
    (hX : ∀ er w' w'', X er w' → Al w.heap.size (w.heap.size + 2) w' w'' → X er w'') :
    Calls Try.prog 65 #[.pointer (some ⟨b, 0, none⟩), .int .i64 cl, accV 3 rf ac n was A m c] w fun e w' => ∃ er, e = .returned (resV er 0 false none 0 0) ∧ w.heap.size + 2 ≤ w'.heap.size ∧ X er w' := by
  obtain ⟨W1, hW1⟩ : ∃ W1 : World, W1 = w.alloc (.cells #[.int .i64 3, .int .i64 rf, .int .i64 ac, .int .i64 n, .int .u64 was, .slice A m c] 74) := ⟨_, rfl⟩
  have hb1 : Below w.heap.size w W1 := by rw [hW1]; exact below_alloc w _
  obtain ⟨a, ha⟩ : ∃ a, a = w.heap.size := ⟨_, rfl⟩
  have hh1 : W1.heap[a]? = some (.cells #[.int .i64 3, .int .i64 rf, .int .i64 ac, .int .i64 n, .int .u64 was, .slice A m c] 74 (0, 0)) := by rw [hW1, ha]; exact heap_alloc_new w _
  obtain ⟨W2, hW2⟩ : ∃ W2 : World, W2 = W1.alloc (.cells #[.int .i64 0, .int .i64 0, .bool false, .slice none 0 0] 80) := ⟨_, rfl⟩
  obtain ⟨q, hq⟩ : ∃ q, q = w.heap.size + 1 := ⟨_, rfl⟩
  have hqq : q = W1.heap.size := by rw [hW1, hq]; simp
  have hs2 : W2.heap.size = w.heap.size + 2 := by rw [hW2]; simp; omega
  have hh : W2.heap[q]? = some (.cells #[.int .i64 0, .int .i64 0, .bool false, .slice none 0 0] 80 (0, 0)) := by rw [hW2, hqq]; exact heap_alloc_new W1 _
  have hb2 : Below w.heap.size w W2 := by rw [hW2]; exact hb1.trans ((below_alloc W1 _).mono hb1.size)
  have hh2 : W2.heap[a]? = some (.cells #[.int .i64 3, .int .i64 rf, .int .i64 ac, .int .i64 n, .int .u64 was, .slice A m c] 74 (0, 0)) := by rw [hW2]; exact ((below_alloc W1 _).block _ (lt_of_heap hh1)).trans hh1
  have hbx : W2.heap[b]? = some (.cells #[.pointer (some ⟨B, 0, none⟩), .pointer (some ⟨E, 0, none⟩), .int .i64 root, .int .i64 (k : Nat), .int .i64 hold] 135 (0, 0)) := (hb2.block b (lt_of_heap hbox)).trans hbox
  have k0 : W2.cell? ⟨a, 0, none⟩ = some (.int .i64 3) := (cell_of hh2 0).trans rfl
  have HSP : Hid (SP b a B E rf ac n was A m c W2) := Lib.hid ⟨(cell_of hbx 0).trans rfl, (cell_of hbx 1).trans rfl, (cell_of hh2 1).trans rfl, (cell_of hh2 2).trans rfl, (cell_of hh2 3).trans rfl, (cell_of hh2 4).trans rfl, (cell_of hh2 5).trans rfl⟩
  have HSD : Hid (SP b a B E rf ac n was A m c W2.drew) := Lib.hid ⟨HSP.out.s0, HSP.out.s1, HSP.out.t1, HSP.out.t2, HSP.out.t3, HSP.out.t4, HSP.out.t5⟩
  have HX := Lib.hid hX
  have HC : Hid (∀ W, Below w.heap.size w W → W.heap.size = w.heap.size + 2 → Calls Try.prog 19 #[.pointer (some ⟨B, 0, none⟩), .int .i64 rf, .slice A m c] W fun e w' => ∃ er, e = .returned (.int .i64 er) ∧ W.heap.size ≤ w'.heap.size ∧ (∀ x, x = b ∨ w.heap.size ≤ x → x < W.heap.size → w'.heap[x]? = W.heap[x]?) ∧ X er w') := Lib.hid hc
  have HW1 := Lib.hid hW1
  have HW2 := Lib.hid hW2
  have HQ := Lib.hid hq
  have HA := Lib.hid ha
  have HB2 := Lib.hid hb2
  have HS2 := Lib.hid hs2
  have HH := Lib.hid hh
  have HLB : Hid (b < W2.heap.size) := Lib.hid (lt_of_heap hbx)
  have HLA : Hid (a < W2.heap.size) := Lib.hid (lt_of_heap hh2)
  clear hbox hc hX hb1 hb2 hh hh1 hh2 hbx hW1 hW2 hq hqq hs2
  unfold accV
  go_enter Try.func65, Try.ntmps65
  go_upto_region 1 with (fail)
  rw [← HW1.out, ← HW2.out, ← HQ.out, ← HA.out]
  clear ha
  go_upto_region 8 with (fail)
  refine wp_region_K (SP b a B E rf ac n was A m c) 9 (by kernel_rfl) ?_
  refine wpAnyK_pure (i := 0) (oi := _) (v := ?_) (by rfl) (by kernel_rfl) (by intro _ _ _ h; exact h) (Or.inl ⟨by rfl, ?_⟩) ?_
  rotate_left 1
  · intro w' _
    go_simp
    all_goals with_reducible rfl
  simp only [Act.put, List.getElem_toArray, List.getElem_cons_zero, List.getElem_cons_succ, List.setIfInBounds_toArray, List.set_cons_zero, List.set_cons_succ]
  refine wpAnyK_pure (i := 1) (oi := _) (v := ?_) (by rfl) (by kernel_rfl) (by intro _ _ _ h; exact h) (Or.inl ⟨by rfl, ?_⟩) ?_
  rotate_left 1
  · intro w' _
    go_simp
    all_goals with_reducible rfl
  simp only [Act.put, List.getElem_toArray, List.getElem_cons_zero, List.getElem_cons_succ, List.setIfInBounds_toArray, List.set_cons_zero, List.set_cons_succ]
  refine wpAnyK_pure (i := 2) (oi := _) (v := ?_) (by rfl) (by kernel_rfl) (by intro _ _ _ h; exact h) (Or.inl ⟨by rfl, ?_⟩) ?_
  rotate_left 1
  · intro w' _
    go_simp
    all_goals with_reducible rfl
  simp only [Act.put, List.getElem_toArray, List.getElem_cons_zero, List.getElem_cons_succ, List.setIfInBounds_toArray, List.set_cons_zero, List.set_cons_succ]
  refine wpAnyK_take (i := 3) (oi := _) (v := ?_) (by rfl) (by kernel_rfl) (by intro _ _ _ h; exact h) HSD.out (Or.inl ⟨by rfl, ?_⟩) ?_
  rotate_left 1
  · intro w' hl
    have l0 := hl.s0
    have l1 := hl.s1
    have l2 := hl.t1
    have l3 := hl.t2
    have l4 := hl.t3
    have l5 := hl.t4
    have l6 := hl.t5
    clear hl
    go_simp
    all_goals with_reducible rfl
  simp only [Act.put, List.getElem_toArray, List.getElem_cons_zero, List.getElem_cons_succ, List.setIfInBounds_toArray, List.set_cons_zero, List.set_cons_succ]
  refine wpAnyK_pure (i := 4) (oi := _) (v := ?_) (by rfl) (by kernel_rfl) (by intro _ _ _ h; exact h) (Or.inl ⟨by rfl, ?_⟩) ?_
  rotate_left 1
  · intro w' _
    go_simp
    all_goals with_reducible rfl
  simp only [Act.put, List.getElem_toArray, List.getElem_cons_zero, List.getElem_cons_succ, List.setIfInBounds_toArray, List.set_cons_zero, List.set_cons_succ]
  refine wpAnyK_take (i := 5) (oi := _) (v := ?_) (by rfl) (by kernel_rfl) (by intro _ _ _ h; exact h) HSD.out (Or.inl ⟨by rfl, ?_⟩) ?_
  rotate_left 1
  · intro w' hl
    have l0 := hl.s0
    have l1 := hl.s1
    have l2 := hl.t1
    have l3 := hl.t2
    have l4 := hl.t3
    have l5 := hl.t4
    have l6 := hl.t5
    clear hl
    go_simp
    all_goals with_reducible rfl
  simp only [Act.put, List.getElem_toArray, List.getElem_cons_zero, List.getElem_cons_succ, List.setIfInBounds_toArray, List.set_cons_zero, List.set_cons_succ]
  refine wpAnyK_pure (i := 6) (oi := _) (v := ?_) (by rfl) (by kernel_rfl) (by intro _ _ _ h; exact h) (Or.inl ⟨by rfl, ?_⟩) ?_
  rotate_left 1
  · intro w' _
    go_simp
    all_goals with_reducible rfl
  simp only [Act.put, List.getElem_toArray, List.getElem_cons_zero, List.getElem_cons_succ, List.setIfInBounds_toArray, List.set_cons_zero, List.set_cons_succ]
  refine wpAnyK_take (i := 7) (oi := _) (v := ?_) (by rfl) (by kernel_rfl) (by intro _ _ _ h; exact h) HSD.out (Or.inl ⟨by rfl, ?_⟩) ?_
  rotate_left 1
  · intro w' hl
    have l0 := hl.s0
    have l1 := hl.s1
    have l2 := hl.t1
    have l3 := hl.t2
    have l4 := hl.t3
    have l5 := hl.t4
    have l6 := hl.t5
    clear hl
    go_simp
    all_goals with_reducible rfl
  simp only [Act.put, List.getElem_toArray, List.getElem_cons_zero, List.getElem_cons_succ, List.setIfInBounds_toArray, List.set_cons_zero, List.set_cons_succ]
  refine wpAnyK_all (rs := [8]) (by kernel_rfl) (by simp) ?_
  intro ix hix
  simp only [List.mem_cons, List.not_mem_nil, or_false] at hix
  subst hix
  refine wpK_op (o := _) (by rfl) (fun K hK => ?_)
  go_simp
  go_at_call 19
  refine (HC.out _ (HB2.out.trans ((below_drew _).mono HB2.out.size)) HS2.out).mono ?_
  rintro e w3 ⟨er, rfl, hsz, hkp, hx⟩
  have HS3 : Hid (SP b a B E rf ac n was A m c w3) := Lib.hid (by
    have hS := HSP.out
    have e1 : w3.heap[b]? = W2.heap[b]? := hkp b (.inl rfl) HLB.out
    have e2 : w3.heap[a]? = W2.heap[a]? := hkp a (.inr (by have := HA.out; omega)) HLA.out
    exact ⟨(World.cell?_of_block (a := ⟨b, 0, none⟩) e1).trans hS.s0, (World.cell?_of_block (a := ⟨b, 1, none⟩) e1).trans hS.s1, (World.cell?_of_block (a := ⟨a, 1, none⟩) e2).trans hS.t1, (World.cell?_of_block (a := ⟨a, 2, none⟩) e2).trans hS.t2, (World.cell?_of_block (a := ⟨a, 3, none⟩) e2).trans hS.t3, (World.cell?_of_block (a := ⟨a, 4, none⟩) e2).trans hS.t4, (World.cell?_of_block (a := ⟨a, 5, none⟩) e2).trans hS.t5⟩)
  have HH3 : Hid (w3.heap[q]? = some (.cells #[.int .i64 0, .int .i64 0, .bool false, .slice none 0 0] 80 (0, 0))) := Lib.hid ((hkp q (by first | exact .inr (by have := HQ.out; omega) | (have := HQ.out; omega)) (by have := HQ.out; have := HS2.out; first | omega | (show q < W2.heap.size; omega))).trans HH.out)
  have HXX := Lib.hid hx
  have HSZ : Hid (w.heap.size + 2 ≤ w3.heap.size) := Lib.hid (by have := HS2.out; first | omega | (have h9 : W2.heap.size ≤ w3.heap.size := hsz; omega))
  refine hK _ _ (fun _ _ => HS3.out) ?_
  clear hK K
  try simp only [Act.put, List.getElem_toArray, List.getElem_cons_zero, List.getElem_cons_succ, List.setIfInBounds_toArray, List.set_cons_zero, List.set_cons_succ]
  clear hsz hkp hx
  refine wpAnyK_pure (i := 9) (oi := _) (v := ?_) (by rfl) (by kernel_rfl) (by intro _ _ _ h; exact h) (Or.inl ⟨by rfl, ?_⟩) ?_
  rotate_left 1
  · intro w' _
    go_simp
    all_goals with_reducible rfl
  simp only [Act.put, List.getElem_toArray, List.getElem_cons_zero, List.getElem_cons_succ, List.setIfInBounds_toArray, List.set_cons_zero, List.set_cons_succ]
  have q0 : w3.cell? ⟨q, 0, none⟩ = some (.int .i64 0) := (cell_of HH3.out 0).trans rfl
  have q1 : w3.cell? ⟨q, 1, none⟩ = some (.int .i64 0) := (cell_of HH3.out 1).trans rfl
  have q2 : w3.cell? ⟨q, 2, none⟩ = some (.bool false) := (cell_of HH3.out 2).trans rfl
  have q3 : w3.cell? ⟨q, 3, none⟩ = some (.slice none 0 0) := (cell_of HH3.out 3).trans rfl
  have f0 := frozen_of HH3.out 0
  have f1 := frozen_of HH3.out 1
  have f2 := frozen_of HH3.out 2
  have f3 := frozen_of HH3.out 3
  refine wpAnyK_all (rs := [10]) (by kernel_rfl) (by simp) ?_
  intro ix hix
  simp only [List.mem_cons, List.not_mem_nil, or_false] at hix
  subst hix
  refine wpK_op (o := _) (by rfl) (fun K hK => ?_)
  go_simp
  refine hK _ _ (fun h => absurd h (by omega)) ?_
  clear hK K
  try simp only [Act.put, List.getElem_toArray, List.getElem_cons_zero, List.getElem_cons_succ, List.setIfInBounds_toArray, List.set_cons_zero, List.set_cons_succ]
  refine wpAnyK_done (by kernel_rfl) ?_ _
  have h4 := (heap_setCell_same _ _ 0 _ _ (.int .i64 er) (HH3.out))
  have hal := ((Al.refl w.heap.size (w.heap.size + 2) w3).set (a := ⟨q, 0, none⟩) (by show w.heap.size ≤ q; have := HQ.out; omega) (by show q < w.heap.size + 2; have := HQ.out; omega) (.int .i64 er))
  try clear q0 q1 q2 q3 f0 f1 f2 f3
  generalize (w3.setCell ⟨q, 0, none⟩ (.int .i64 er)) = w4 at *
  have q0 : w4.cell? ⟨q, 0, none⟩ = some (.int .i64 er) := (cell_of h4 0).trans rfl
  have q1 : w4.cell? ⟨q, 1, none⟩ = some (.int .i64 0) := (cell_of h4 1).trans rfl
  have q2 : w4.cell? ⟨q, 2, none⟩ = some (.bool false) := (cell_of h4 2).trans rfl
  have q3 : w4.cell? ⟨q, 3, none⟩ = some (.slice none 0 0) := (cell_of h4 3).trans rfl
  have f0 := frozen_of h4 0
  have f1 := frozen_of h4 1
  have f2 := frozen_of h4 2
  have f3 := frozen_of h4 3
  have H4 := Lib.hid h4
  have HAL := Lib.hid hal
  clear h4 hal
  go_wp2
  have hh := set4 H4.out (.int .i64 er) (.int .i64 0) (.bool false) (.slice none 0 0)
  have hal := HAL.out.set4 (q := q) (by have := HQ.out; omega) (by have := HQ.out; omega) (.int .i64 er) (.int .i64 0) (.bool false) (.slice none 0 0)
  generalize ((((w4.setCell ⟨q, 0, none⟩ (.int .i64 er)).setCell ⟨q, 1, none⟩ (.int .i64 0)).setCell ⟨q, 2, none⟩ (.bool false)).setCell ⟨q, 3, none⟩ (.slice none 0 0)) = W5 at *
  have p0 : W5.cell? ⟨q, 0, none⟩ = some (.int .i64 er) := (cell_of hh 0).trans rfl
  have p1 : W5.cell? ⟨q, 1, none⟩ = some (.int .i64 0) := (cell_of hh 1).trans rfl
  have p2 : W5.cell? ⟨q, 2, none⟩ = some (.bool false) := (cell_of hh 2).trans rfl
  have p3 : W5.cell? ⟨q, 3, none⟩ = some (.slice none 0 0) := (cell_of hh 3).trans rfl
  exact bodyPost_ret (v := resV er 0 false none 0 0) (by simp [results, Try.results65, go_sem, p0, p1, p2, p3, resV]) rfl ⟨er, rfl, by have := hal.size; have := HSZ.out; omega, HX.out _ _ _ HXX.out hal⟩
set_option maxRecDepth 100000 in
set_option maxHeartbeats 1600000 in
/-- perform at the kind 4. -/
theorem perf4 {X : Int → Int → World → Prop} {b B E k : Nat} {root hold : Int} {w : World} (hbox : w.heap[b]? = some (.cells #[.pointer (some ⟨B, 0, none⟩), .pointer (some ⟨E, 0, none⟩), .int .i64 root, .int .i64 (k : Nat), .int .i64 hold] 135 (0, 0))) (cl rf ac n was : Int) (A : Option Addr) (m c : Nat)
    (hc : ∀ W, Below w.heap.size w W → W.heap.size = w.heap.size + 2 → Calls Try.prog 23 #[.pointer (some ⟨B, 0, none⟩), .int .i64 ac, .slice A m c] W fun e w' => ∃ z er, e = .returned (.tuple #[.int .i64 z, .int .i64 er]) ∧ W.heap.size ≤ w'.heap.size ∧ (∀ x, x = b ∨ w.heap.size ≤ x → x < W.heap.size → w'.heap[x]? = W.heap[x]?) ∧ X z er w')
    (hX : ∀ z er w' w'', X z er w' → Al w.heap.size (w.heap.size + 2) w' w'' → X z er w'') :
    Calls Try.prog 65 #[.pointer (some ⟨b, 0, none⟩), .int .i64 cl, accV 4 rf ac n was A m c] w fun e w' => ∃ z er, e = .returned (resV er z false none 0 0) ∧ w.heap.size + 2 ≤ w'.heap.size ∧ X z er w' := by
  obtain ⟨W1, hW1⟩ : ∃ W1 : World, W1 = w.alloc (.cells #[.int .i64 4, .int .i64 rf, .int .i64 ac, .int .i64 n, .int .u64 was, .slice A m c] 74) := ⟨_, rfl⟩
  have hb1 : Below w.heap.size w W1 := by rw [hW1]; exact below_alloc w _
  obtain ⟨a, ha⟩ : ∃ a, a = w.heap.size := ⟨_, rfl⟩
  have hh1 : W1.heap[a]? = some (.cells #[.int .i64 4, .int .i64 rf, .int .i64 ac, .int .i64 n, .int .u64 was, .slice A m c] 74 (0, 0)) := by rw [hW1, ha]; exact heap_alloc_new w _
  obtain ⟨W2, hW2⟩ : ∃ W2 : World, W2 = W1.alloc (.cells #[.int .i64 0, .int .i64 0, .bool false, .slice none 0 0] 80) := ⟨_, rfl⟩
  obtain ⟨q, hq⟩ : ∃ q, q = w.heap.size + 1 := ⟨_, rfl⟩
  have hqq : q = W1.heap.size := by rw [hW1, hq]; simp
  have hs2 : W2.heap.size = w.heap.size + 2 := by rw [hW2]; simp; omega
  have hh : W2.heap[q]? = some (.cells #[.int .i64 0, .int .i64 0, .bool false, .slice none 0 0] 80 (0, 0)) := by rw [hW2, hqq]; exact heap_alloc_new W1 _
  have hb2 : Below w.heap.size w W2 := by rw [hW2]; exact hb1.trans ((below_alloc W1 _).mono hb1.size)
  have hh2 : W2.heap[a]? = some (.cells #[.int .i64 4, .int .i64 rf, .int .i64 ac, .int .i64 n, .int .u64 was, .slice A m c] 74 (0, 0)) := by rw [hW2]; exact ((below_alloc W1 _).block _ (lt_of_heap hh1)).trans hh1
  have hbx : W2.heap[b]? = some (.cells #[.pointer (some ⟨B, 0, none⟩), .pointer (some ⟨E, 0, none⟩), .int .i64 root, .int .i64 (k : Nat), .int .i64 hold] 135 (0, 0)) := (hb2.block b (lt_of_heap hbox)).trans hbox
  have k0 : W2.cell? ⟨a, 0, none⟩ = some (.int .i64 4) := (cell_of hh2 0).trans rfl
  have HSP : Hid (SP b a B E rf ac n was A m c W2) := Lib.hid ⟨(cell_of hbx 0).trans rfl, (cell_of hbx 1).trans rfl, (cell_of hh2 1).trans rfl, (cell_of hh2 2).trans rfl, (cell_of hh2 3).trans rfl, (cell_of hh2 4).trans rfl, (cell_of hh2 5).trans rfl⟩
  have HSD : Hid (SP b a B E rf ac n was A m c W2.drew) := Lib.hid ⟨HSP.out.s0, HSP.out.s1, HSP.out.t1, HSP.out.t2, HSP.out.t3, HSP.out.t4, HSP.out.t5⟩
  have HX := Lib.hid hX
  have HC : Hid (∀ W, Below w.heap.size w W → W.heap.size = w.heap.size + 2 → Calls Try.prog 23 #[.pointer (some ⟨B, 0, none⟩), .int .i64 ac, .slice A m c] W fun e w' => ∃ z er, e = .returned (.tuple #[.int .i64 z, .int .i64 er]) ∧ W.heap.size ≤ w'.heap.size ∧ (∀ x, x = b ∨ w.heap.size ≤ x → x < W.heap.size → w'.heap[x]? = W.heap[x]?) ∧ X z er w') := Lib.hid hc
  have HW1 := Lib.hid hW1
  have HW2 := Lib.hid hW2
  have HQ := Lib.hid hq
  have HA := Lib.hid ha
  have HB2 := Lib.hid hb2
  have HS2 := Lib.hid hs2
  have HH := Lib.hid hh
  have HLB : Hid (b < W2.heap.size) := Lib.hid (lt_of_heap hbx)
  have HLA : Hid (a < W2.heap.size) := Lib.hid (lt_of_heap hh2)
  clear hbox hc hX hb1 hb2 hh hh1 hh2 hbx hW1 hW2 hq hqq hs2
  unfold accV
  go_enter Try.func65, Try.ntmps65
  go_upto_region 1 with (fail)
  rw [← HW1.out, ← HW2.out, ← HQ.out, ← HA.out]
  clear ha
  go_upto_region 10 with (fail)
  refine wp_region_K (SP b a B E rf ac n was A m c) 12 (by kernel_rfl) ?_
  refine wpAnyK_pure (i := 0) (oi := _) (v := ?_) (by rfl) (by kernel_rfl) (by intro _ _ _ h; exact h) (Or.inl ⟨by rfl, ?_⟩) ?_
  rotate_left 1
  · intro w' _
    go_simp
    all_goals with_reducible rfl
  simp only [Act.put, List.getElem_toArray, List.getElem_cons_zero, List.getElem_cons_succ, List.setIfInBounds_toArray, List.set_cons_zero, List.set_cons_succ]
  refine wpAnyK_pure (i := 1) (oi := _) (v := ?_) (by rfl) (by kernel_rfl) (by intro _ _ _ h; exact h) (Or.inl ⟨by rfl, ?_⟩) ?_
  rotate_left 1
  · intro w' _
    go_simp
    all_goals with_reducible rfl
  simp only [Act.put, List.getElem_toArray, List.getElem_cons_zero, List.getElem_cons_succ, List.setIfInBounds_toArray, List.set_cons_zero, List.set_cons_succ]
  refine wpAnyK_pure (i := 2) (oi := _) (v := ?_) (by rfl) (by kernel_rfl) (by intro _ _ _ h; exact h) (Or.inl ⟨by rfl, ?_⟩) ?_
  rotate_left 1
  · intro w' _
    go_simp
    all_goals with_reducible rfl
  simp only [Act.put, List.getElem_toArray, List.getElem_cons_zero, List.getElem_cons_succ, List.setIfInBounds_toArray, List.set_cons_zero, List.set_cons_succ]
  refine wpAnyK_take (i := 3) (oi := _) (v := ?_) (by rfl) (by kernel_rfl) (by intro _ _ _ h; exact h) HSD.out (Or.inl ⟨by rfl, ?_⟩) ?_
  rotate_left 1
  · intro w' hl
    have l0 := hl.s0
    have l1 := hl.s1
    have l2 := hl.t1
    have l3 := hl.t2
    have l4 := hl.t3
    have l5 := hl.t4
    have l6 := hl.t5
    clear hl
    go_simp
    all_goals with_reducible rfl
  simp only [Act.put, List.getElem_toArray, List.getElem_cons_zero, List.getElem_cons_succ, List.setIfInBounds_toArray, List.set_cons_zero, List.set_cons_succ]
  refine wpAnyK_pure (i := 4) (oi := _) (v := ?_) (by rfl) (by kernel_rfl) (by intro _ _ _ h; exact h) (Or.inl ⟨by rfl, ?_⟩) ?_
  rotate_left 1
  · intro w' _
    go_simp
    all_goals with_reducible rfl
  simp only [Act.put, List.getElem_toArray, List.getElem_cons_zero, List.getElem_cons_succ, List.setIfInBounds_toArray, List.set_cons_zero, List.set_cons_succ]
  refine wpAnyK_take (i := 5) (oi := _) (v := ?_) (by rfl) (by kernel_rfl) (by intro _ _ _ h; exact h) HSD.out (Or.inl ⟨by rfl, ?_⟩) ?_
  rotate_left 1
  · intro w' hl
    have l0 := hl.s0
    have l1 := hl.s1
    have l2 := hl.t1
    have l3 := hl.t2
    have l4 := hl.t3
    have l5 := hl.t4
    have l6 := hl.t5
    clear hl
    go_simp
    all_goals with_reducible rfl
  simp only [Act.put, List.getElem_toArray, List.getElem_cons_zero, List.getElem_cons_succ, List.setIfInBounds_toArray, List.set_cons_zero, List.set_cons_succ]
  refine wpAnyK_pure (i := 6) (oi := _) (v := ?_) (by rfl) (by kernel_rfl) (by intro _ _ _ h; exact h) (Or.inl ⟨by rfl, ?_⟩) ?_
  rotate_left 1
  · intro w' _
    go_simp
    all_goals with_reducible rfl
  simp only [Act.put, List.getElem_toArray, List.getElem_cons_zero, List.getElem_cons_succ, List.setIfInBounds_toArray, List.set_cons_zero, List.set_cons_succ]
  refine wpAnyK_take (i := 7) (oi := _) (v := ?_) (by rfl) (by kernel_rfl) (by intro _ _ _ h; exact h) HSD.out (Or.inl ⟨by rfl, ?_⟩) ?_
  rotate_left 1
  · intro w' hl
    have l0 := hl.s0
    have l1 := hl.s1
    have l2 := hl.t1
    have l3 := hl.t2
    have l4 := hl.t3
    have l5 := hl.t4
    have l6 := hl.t5
    clear hl
    go_simp
    all_goals with_reducible rfl
  simp only [Act.put, List.getElem_toArray, List.getElem_cons_zero, List.getElem_cons_succ, List.setIfInBounds_toArray, List.set_cons_zero, List.set_cons_succ]
  refine wpAnyK_all (rs := [8]) (by kernel_rfl) (by simp) ?_
  intro ix hix
  simp only [List.mem_cons, List.not_mem_nil, or_false] at hix
  subst hix
  refine wpK_op (o := _) (by rfl) (fun K hK => ?_)
  go_simp
  go_at_call 23
  refine (HC.out _ (HB2.out.trans ((below_drew _).mono HB2.out.size)) HS2.out).mono ?_
  rintro e w3 ⟨z, er, rfl, hsz, hkp, hx⟩
  have HS3 : Hid (SP b a B E rf ac n was A m c w3) := Lib.hid (by
    have hS := HSP.out
    have e1 : w3.heap[b]? = W2.heap[b]? := hkp b (.inl rfl) HLB.out
    have e2 : w3.heap[a]? = W2.heap[a]? := hkp a (.inr (by have := HA.out; omega)) HLA.out
    exact ⟨(World.cell?_of_block (a := ⟨b, 0, none⟩) e1).trans hS.s0, (World.cell?_of_block (a := ⟨b, 1, none⟩) e1).trans hS.s1, (World.cell?_of_block (a := ⟨a, 1, none⟩) e2).trans hS.t1, (World.cell?_of_block (a := ⟨a, 2, none⟩) e2).trans hS.t2, (World.cell?_of_block (a := ⟨a, 3, none⟩) e2).trans hS.t3, (World.cell?_of_block (a := ⟨a, 4, none⟩) e2).trans hS.t4, (World.cell?_of_block (a := ⟨a, 5, none⟩) e2).trans hS.t5⟩)
  have HH3 : Hid (w3.heap[q]? = some (.cells #[.int .i64 0, .int .i64 0, .bool false, .slice none 0 0] 80 (0, 0))) := Lib.hid ((hkp q (by first | exact .inr (by have := HQ.out; omega) | (have := HQ.out; omega)) (by have := HQ.out; have := HS2.out; first | omega | (show q < W2.heap.size; omega))).trans HH.out)
  have HXX := Lib.hid hx
  have HSZ : Hid (w.heap.size + 2 ≤ w3.heap.size) := Lib.hid (by have := HS2.out; first | omega | (have h9 : W2.heap.size ≤ w3.heap.size := hsz; omega))
  refine hK _ _ (fun _ _ => HS3.out) ?_
  clear hK K
  try simp only [Act.put, List.getElem_toArray, List.getElem_cons_zero, List.getElem_cons_succ, List.setIfInBounds_toArray, List.set_cons_zero, List.set_cons_succ]
  clear hsz hkp hx
  refine wpAnyK_pure (i := 9) (oi := _) (v := ?_) (by rfl) (by kernel_rfl) (by intro _ _ _ h; exact h) (Or.inl ⟨by rfl, ?_⟩) ?_
  rotate_left 1
  · intro w' _
    go_simp
    all_goals with_reducible rfl
  simp only [Act.put, List.getElem_toArray, List.getElem_cons_zero, List.getElem_cons_succ, List.setIfInBounds_toArray, List.set_cons_zero, List.set_cons_succ]
  refine wpAnyK_pure (i := 10) (oi := _) (v := ?_) (by rfl) (by kernel_rfl) (by intro _ _ _ h; exact h) (Or.inl ⟨by rfl, ?_⟩) ?_
  rotate_left 1
  · intro w' _
    go_simp
    all_goals with_reducible rfl
  simp only [Act.put, List.getElem_toArray, List.getElem_cons_zero, List.getElem_cons_succ, List.setIfInBounds_toArray, List.set_cons_zero, List.set_cons_succ]
  refine wpAnyK_pure (i := 11) (oi := _) (v := ?_) (by rfl) (by kernel_rfl) (by intro _ _ _ h; exact h) (Or.inl ⟨by rfl, ?_⟩) ?_
  rotate_left 1
  · intro w' _
    go_simp
    all_goals with_reducible rfl
  simp only [Act.put, List.getElem_toArray, List.getElem_cons_zero, List.getElem_cons_succ, List.setIfInBounds_toArray, List.set_cons_zero, List.set_cons_succ]
  refine wpAnyK_pure (i := 12) (oi := _) (v := ?_) (by rfl) (by kernel_rfl) (by intro _ _ _ h; exact h) (Or.inl ⟨by rfl, ?_⟩) ?_
  rotate_left 1
  · intro w' _
    go_simp
    all_goals with_reducible rfl
  simp only [Act.put, List.getElem_toArray, List.getElem_cons_zero, List.getElem_cons_succ, List.setIfInBounds_toArray, List.set_cons_zero, List.set_cons_succ]
  have q0 : w3.cell? ⟨q, 0, none⟩ = some (.int .i64 0) := (cell_of HH3.out 0).trans rfl
  have q1 : w3.cell? ⟨q, 1, none⟩ = some (.int .i64 0) := (cell_of HH3.out 1).trans rfl
  have q2 : w3.cell? ⟨q, 2, none⟩ = some (.bool false) := (cell_of HH3.out 2).trans rfl
  have q3 : w3.cell? ⟨q, 3, none⟩ = some (.slice none 0 0) := (cell_of HH3.out 3).trans rfl
  have f0 := frozen_of HH3.out 0
  have f1 := frozen_of HH3.out 1
  have f2 := frozen_of HH3.out 2
  have f3 := frozen_of HH3.out 3
  refine wpAnyK_all (rs := [13]) (by kernel_rfl) (by simp) ?_
  intro ix hix
  simp only [List.mem_cons, List.not_mem_nil, or_false] at hix
  subst hix
  refine wpK_op (o := _) (by rfl) (fun K hK => ?_)
  go_simp
  refine hK _ _ (fun h => absurd h (by omega)) ?_
  clear hK K
  try simp only [Act.put, List.getElem_toArray, List.getElem_cons_zero, List.getElem_cons_succ, List.setIfInBounds_toArray, List.set_cons_zero, List.set_cons_succ]
  refine wpAnyK_pure (i := 14) (oi := _) (v := ?_) (by rfl) (by kernel_rfl) (by intro _ _ _ h; exact h) (Or.inl ⟨by rfl, ?_⟩) ?_
  rotate_left 1
  · intro w' _
    go_simp
    all_goals with_reducible rfl
  simp only [Act.put, List.getElem_toArray, List.getElem_cons_zero, List.getElem_cons_succ, List.setIfInBounds_toArray, List.set_cons_zero, List.set_cons_succ]
  refine wpAnyK_all (rs := [15]) (by kernel_rfl) (by simp) ?_
  intro ix hix
  simp only [List.mem_cons, List.not_mem_nil, or_false] at hix
  subst hix
  refine wpK_op (o := _) (by rfl) (fun K hK => ?_)
  go_simp
  refine hK _ _ (fun h => absurd h (by omega)) ?_
  clear hK K
  try simp only [Act.put, List.getElem_toArray, List.getElem_cons_zero, List.getElem_cons_succ, List.setIfInBounds_toArray, List.set_cons_zero, List.set_cons_succ]
  refine wpAnyK_done (by kernel_rfl) ?_ _
  have h4 := (heap_setCell_same _ _ 0 _ _ (.int .i64 er) ((heap_setCell_same _ _ 1 _ _ (.int .i64 z) (HH3.out))))
  have hal := ((((Al.refl w.heap.size (w.heap.size + 2) w3).set (a := ⟨q, 1, none⟩) (by show w.heap.size ≤ q; have := HQ.out; omega) (by show q < w.heap.size + 2; have := HQ.out; omega) (.int .i64 z))).set (a := ⟨q, 0, none⟩) (by show w.heap.size ≤ q; have := HQ.out; omega) (by show q < w.heap.size + 2; have := HQ.out; omega) (.int .i64 er))
  try clear q0 q1 q2 q3 f0 f1 f2 f3
  generalize ((w3.setCell ⟨q, 1, none⟩ (.int .i64 z)).setCell ⟨q, 0, none⟩ (.int .i64 er)) = w4 at *
  have q0 : w4.cell? ⟨q, 0, none⟩ = some (.int .i64 er) := (cell_of h4 0).trans rfl
  have q1 : w4.cell? ⟨q, 1, none⟩ = some (.int .i64 z) := (cell_of h4 1).trans rfl
  have q2 : w4.cell? ⟨q, 2, none⟩ = some (.bool false) := (cell_of h4 2).trans rfl
  have q3 : w4.cell? ⟨q, 3, none⟩ = some (.slice none 0 0) := (cell_of h4 3).trans rfl
  have f0 := frozen_of h4 0
  have f1 := frozen_of h4 1
  have f2 := frozen_of h4 2
  have f3 := frozen_of h4 3
  have H4 := Lib.hid h4
  have HAL := Lib.hid hal
  clear h4 hal
  go_wp2
  have hh := set4 H4.out (.int .i64 er) (.int .i64 z) (.bool false) (.slice none 0 0)
  have hal := HAL.out.set4 (q := q) (by have := HQ.out; omega) (by have := HQ.out; omega) (.int .i64 er) (.int .i64 z) (.bool false) (.slice none 0 0)
  generalize ((((w4.setCell ⟨q, 0, none⟩ (.int .i64 er)).setCell ⟨q, 1, none⟩ (.int .i64 z)).setCell ⟨q, 2, none⟩ (.bool false)).setCell ⟨q, 3, none⟩ (.slice none 0 0)) = W5 at *
  have p0 : W5.cell? ⟨q, 0, none⟩ = some (.int .i64 er) := (cell_of hh 0).trans rfl
  have p1 : W5.cell? ⟨q, 1, none⟩ = some (.int .i64 z) := (cell_of hh 1).trans rfl
  have p2 : W5.cell? ⟨q, 2, none⟩ = some (.bool false) := (cell_of hh 2).trans rfl
  have p3 : W5.cell? ⟨q, 3, none⟩ = some (.slice none 0 0) := (cell_of hh 3).trans rfl
  exact bodyPost_ret (v := resV er z false none 0 0) (by simp [results, Try.results65, go_sem, p0, p1, p2, p3, resV]) rfl ⟨z, er, rfl, by have := hal.size; have := HSZ.out; omega, HX.out _ _ _ _ HXX.out hal⟩
set_option maxRecDepth 100000 in
set_option maxHeartbeats 1600000 in
/-- perform at the kind 5. -/
theorem perf5 {X : Int → World → Prop} {b B E k : Nat} {root hold : Int} {w : World} (hbox : w.heap[b]? = some (.cells #[.pointer (some ⟨B, 0, none⟩), .pointer (some ⟨E, 0, none⟩), .int .i64 root, .int .i64 (k : Nat), .int .i64 hold] 135 (0, 0))) (cl rf ac n was : Int) (A : Option Addr) (m c : Nat)
    (hc : ∀ W, Below w.heap.size w W → W.heap.size = w.heap.size + 2 → Calls Try.prog 84 #[.pointer (some ⟨b, 0, none⟩), .int .i64 rf] W fun e w' => ∃ er, e = .returned (.int .i64 er) ∧ W.heap.size ≤ w'.heap.size ∧ (∀ x, w.heap.size ≤ x → x < W.heap.size → w'.heap[x]? = W.heap[x]?) ∧ X er w')
    (hX : ∀ er w' w'', X er w' → Al w.heap.size (w.heap.size + 2) w' w'' → X er w'') :
    Calls Try.prog 65 #[.pointer (some ⟨b, 0, none⟩), .int .i64 cl, accV 5 rf ac n was A m c] w fun e w' => ∃ er, e = .returned (resV er 0 false none 0 0) ∧ w.heap.size + 2 ≤ w'.heap.size ∧ X er w' := by
  obtain ⟨W1, hW1⟩ : ∃ W1 : World, W1 = w.alloc (.cells #[.int .i64 5, .int .i64 rf, .int .i64 ac, .int .i64 n, .int .u64 was, .slice A m c] 74) := ⟨_, rfl⟩
  have hb1 : Below w.heap.size w W1 := by rw [hW1]; exact below_alloc w _
  obtain ⟨a, ha⟩ : ∃ a, a = w.heap.size := ⟨_, rfl⟩
  have hh1 : W1.heap[a]? = some (.cells #[.int .i64 5, .int .i64 rf, .int .i64 ac, .int .i64 n, .int .u64 was, .slice A m c] 74 (0, 0)) := by rw [hW1, ha]; exact heap_alloc_new w _
  obtain ⟨W2, hW2⟩ : ∃ W2 : World, W2 = W1.alloc (.cells #[.int .i64 0, .int .i64 0, .bool false, .slice none 0 0] 80) := ⟨_, rfl⟩
  obtain ⟨q, hq⟩ : ∃ q, q = w.heap.size + 1 := ⟨_, rfl⟩
  have hqq : q = W1.heap.size := by rw [hW1, hq]; simp
  have hs2 : W2.heap.size = w.heap.size + 2 := by rw [hW2]; simp; omega
  have hh : W2.heap[q]? = some (.cells #[.int .i64 0, .int .i64 0, .bool false, .slice none 0 0] 80 (0, 0)) := by rw [hW2, hqq]; exact heap_alloc_new W1 _
  have hb2 : Below w.heap.size w W2 := by rw [hW2]; exact hb1.trans ((below_alloc W1 _).mono hb1.size)
  have hh2 : W2.heap[a]? = some (.cells #[.int .i64 5, .int .i64 rf, .int .i64 ac, .int .i64 n, .int .u64 was, .slice A m c] 74 (0, 0)) := by rw [hW2]; exact ((below_alloc W1 _).block _ (lt_of_heap hh1)).trans hh1
  have hbx : W2.heap[b]? = some (.cells #[.pointer (some ⟨B, 0, none⟩), .pointer (some ⟨E, 0, none⟩), .int .i64 root, .int .i64 (k : Nat), .int .i64 hold] 135 (0, 0)) := (hb2.block b (lt_of_heap hbox)).trans hbox
  have k0 : W2.cell? ⟨a, 0, none⟩ = some (.int .i64 5) := (cell_of hh2 0).trans rfl
  have HSP : Hid (SP b a B E rf ac n was A m c W2) := Lib.hid ⟨(cell_of hbx 0).trans rfl, (cell_of hbx 1).trans rfl, (cell_of hh2 1).trans rfl, (cell_of hh2 2).trans rfl, (cell_of hh2 3).trans rfl, (cell_of hh2 4).trans rfl, (cell_of hh2 5).trans rfl⟩
  have HSD : Hid (SP b a B E rf ac n was A m c W2.drew) := Lib.hid ⟨HSP.out.s0, HSP.out.s1, HSP.out.t1, HSP.out.t2, HSP.out.t3, HSP.out.t4, HSP.out.t5⟩
  have HX := Lib.hid hX
  have HC : Hid (∀ W, Below w.heap.size w W → W.heap.size = w.heap.size + 2 → Calls Try.prog 84 #[.pointer (some ⟨b, 0, none⟩), .int .i64 rf] W fun e w' => ∃ er, e = .returned (.int .i64 er) ∧ W.heap.size ≤ w'.heap.size ∧ (∀ x, w.heap.size ≤ x → x < W.heap.size → w'.heap[x]? = W.heap[x]?) ∧ X er w') := Lib.hid hc
  have HW1 := Lib.hid hW1
  have HW2 := Lib.hid hW2
  have HQ := Lib.hid hq
  have HA := Lib.hid ha
  have HB2 := Lib.hid hb2
  have HS2 := Lib.hid hs2
  have HH := Lib.hid hh
  have HLB : Hid (b < W2.heap.size) := Lib.hid (lt_of_heap hbx)
  have HLA : Hid (a < W2.heap.size) := Lib.hid (lt_of_heap hh2)
  clear hbox hc hX hb1 hb2 hh hh1 hh2 hbx hW1 hW2 hq hqq hs2
  unfold accV
  go_enter Try.func65, Try.ntmps65
  go_upto_region 1 with (fail)
  rw [← HW1.out, ← HW2.out, ← HQ.out, ← HA.out]
  clear ha
  go_upto_region 12 with (fail)
  have l0 := HSP.out.s0
  have l1 := HSP.out.s1
  have l2 := HSP.out.t1
  have l3 := HSP.out.t2
  have l4 := HSP.out.t3
  go_upto_region 33 with (first
    | (go_at_call 84; refine (HC.out _ HB2.out HS2.out).mono ?_; rintro e w3 ⟨er, rfl, hsz, hkp, hx⟩
       have HH3 : Hid (w3.heap[q]? = some (.cells #[.int .i64 0, .int .i64 0, .bool false, .slice none 0 0] 80 (0, 0))) := Lib.hid ((hkp q (by first | exact .inr (by have := HQ.out; omega) | (have := HQ.out; omega)) (by have := HQ.out; have := HS2.out; first | omega | (show q < W2.heap.size; omega))).trans HH.out)
       have HXX := Lib.hid hx
       have HSZ : Hid (w.heap.size + 2 ≤ w3.heap.size) := Lib.hid (by have := HS2.out; first | omega | (have h9 : W2.heap.size ≤ w3.heap.size := hsz; omega))
       have q0 : w3.cell? ⟨q, 0, none⟩ = some (.int .i64 0) := (cell_of HH3.out 0).trans rfl
       have q1 : w3.cell? ⟨q, 1, none⟩ = some (.int .i64 0) := (cell_of HH3.out 1).trans rfl
       have q2 : w3.cell? ⟨q, 2, none⟩ = some (.bool false) := (cell_of HH3.out 2).trans rfl
       have q3 : w3.cell? ⟨q, 3, none⟩ = some (.slice none 0 0) := (cell_of HH3.out 3).trans rfl
       have f0 := frozen_of HH3.out 0
       have f1 := frozen_of HH3.out 1
       have f2 := frozen_of HH3.out 2
       have f3 := frozen_of HH3.out 3
       clear hsz hkp hx k0 l0 l1 l2 l3 l4)
    | fail)
  have h4 := (heap_setCell_same _ _ 0 _ _ (.int .i64 er) (HH3.out))
  have hal := ((Al.refl w.heap.size (w.heap.size + 2) w3).set (a := ⟨q, 0, none⟩) (by show w.heap.size ≤ q; have := HQ.out; omega) (by show q < w.heap.size + 2; have := HQ.out; omega) (.int .i64 er))
  try clear q0 q1 q2 q3 f0 f1 f2 f3
  generalize (w3.setCell ⟨q, 0, none⟩ (.int .i64 er)) = w4 at *
  have q0 : w4.cell? ⟨q, 0, none⟩ = some (.int .i64 er) := (cell_of h4 0).trans rfl
  have q1 : w4.cell? ⟨q, 1, none⟩ = some (.int .i64 0) := (cell_of h4 1).trans rfl
  have q2 : w4.cell? ⟨q, 2, none⟩ = some (.bool false) := (cell_of h4 2).trans rfl
  have q3 : w4.cell? ⟨q, 3, none⟩ = some (.slice none 0 0) := (cell_of h4 3).trans rfl
  have f0 := frozen_of h4 0
  have f1 := frozen_of h4 1
  have f2 := frozen_of h4 2
  have f3 := frozen_of h4 3
  have H4 := Lib.hid h4
  have HAL := Lib.hid hal
  clear h4 hal
  go_wp2
  have hh := set4 H4.out (.int .i64 er) (.int .i64 0) (.bool false) (.slice none 0 0)
  have hal := HAL.out.set4 (q := q) (by have := HQ.out; omega) (by have := HQ.out; omega) (.int .i64 er) (.int .i64 0) (.bool false) (.slice none 0 0)
  generalize ((((w4.setCell ⟨q, 0, none⟩ (.int .i64 er)).setCell ⟨q, 1, none⟩ (.int .i64 0)).setCell ⟨q, 2, none⟩ (.bool false)).setCell ⟨q, 3, none⟩ (.slice none 0 0)) = W5 at *
  have p0 : W5.cell? ⟨q, 0, none⟩ = some (.int .i64 er) := (cell_of hh 0).trans rfl
  have p1 : W5.cell? ⟨q, 1, none⟩ = some (.int .i64 0) := (cell_of hh 1).trans rfl
  have p2 : W5.cell? ⟨q, 2, none⟩ = some (.bool false) := (cell_of hh 2).trans rfl
  have p3 : W5.cell? ⟨q, 3, none⟩ = some (.slice none 0 0) := (cell_of hh 3).trans rfl
  exact bodyPost_ret (v := resV er 0 false none 0 0) (by simp [results, Try.results65, go_sem, p0, p1, p2, p3, resV]) rfl ⟨er, rfl, by have := hal.size; have := HSZ.out; omega, HX.out _ _ _ HXX.out hal⟩
set_option maxRecDepth 100000 in
set_option maxHeartbeats 1600000 in
/-- perform at the kind 6. -/
theorem perf6 {X : Int → World → Prop} {b B E k : Nat} {root hold : Int} {w : World} (hbox : w.heap[b]? = some (.cells #[.pointer (some ⟨B, 0, none⟩), .pointer (some ⟨E, 0, none⟩), .int .i64 root, .int .i64 (k : Nat), .int .i64 hold] 135 (0, 0))) (cl rf ac n was : Int) (A : Option Addr) (m c : Nat)
    (hc : ∀ W, Below w.heap.size w W → W.heap.size = w.heap.size + 2 → Calls Try.prog 85 #[.pointer (some ⟨b, 0, none⟩), .int .i64 cl, .int .i64 rf] W fun e w' => ∃ er, e = .returned (.int .i64 er) ∧ W.heap.size ≤ w'.heap.size ∧ (∀ x, w.heap.size ≤ x → x < W.heap.size → w'.heap[x]? = W.heap[x]?) ∧ X er w')
    (hX : ∀ er w' w'', X er w' → Al w.heap.size (w.heap.size + 2) w' w'' → X er w'') :
    Calls Try.prog 65 #[.pointer (some ⟨b, 0, none⟩), .int .i64 cl, accV 6 rf ac n was A m c] w fun e w' => ∃ er, e = .returned (resV er 0 false none 0 0) ∧ w.heap.size + 2 ≤ w'.heap.size ∧ X er w' := by
  obtain ⟨W1, hW1⟩ : ∃ W1 : World, W1 = w.alloc (.cells #[.int .i64 6, .int .i64 rf, .int .i64 ac, .int .i64 n, .int .u64 was, .slice A m c] 74) := ⟨_, rfl⟩
  have hb1 : Below w.heap.size w W1 := by rw [hW1]; exact below_alloc w _
  obtain ⟨a, ha⟩ : ∃ a, a = w.heap.size := ⟨_, rfl⟩
  have hh1 : W1.heap[a]? = some (.cells #[.int .i64 6, .int .i64 rf, .int .i64 ac, .int .i64 n, .int .u64 was, .slice A m c] 74 (0, 0)) := by rw [hW1, ha]; exact heap_alloc_new w _
  obtain ⟨W2, hW2⟩ : ∃ W2 : World, W2 = W1.alloc (.cells #[.int .i64 0, .int .i64 0, .bool false, .slice none 0 0] 80) := ⟨_, rfl⟩
  obtain ⟨q, hq⟩ : ∃ q, q = w.heap.size + 1 := ⟨_, rfl⟩
  have hqq : q = W1.heap.size := by rw [hW1, hq]; simp
  have hs2 : W2.heap.size = w.heap.size + 2 := by rw [hW2]; simp; omega
  have hh : W2.heap[q]? = some (.cells #[.int .i64 0, .int .i64 0, .bool false, .slice none 0 0] 80 (0, 0)) := by rw [hW2, hqq]; exact heap_alloc_new W1 _
  have hb2 : Below w.heap.size w W2 := by rw [hW2]; exact hb1.trans ((below_alloc W1 _).mono hb1.size)
  have hh2 : W2.heap[a]? = some (.cells #[.int .i64 6, .int .i64 rf, .int .i64 ac, .int .i64 n, .int .u64 was, .slice A m c] 74 (0, 0)) := by rw [hW2]; exact ((below_alloc W1 _).block _ (lt_of_heap hh1)).trans hh1
  have hbx : W2.heap[b]? = some (.cells #[.pointer (some ⟨B, 0, none⟩), .pointer (some ⟨E, 0, none⟩), .int .i64 root, .int .i64 (k : Nat), .int .i64 hold] 135 (0, 0)) := (hb2.block b (lt_of_heap hbox)).trans hbox
  have k0 : W2.cell? ⟨a, 0, none⟩ = some (.int .i64 6) := (cell_of hh2 0).trans rfl
  have HSP : Hid (SP b a B E rf ac n was A m c W2) := Lib.hid ⟨(cell_of hbx 0).trans rfl, (cell_of hbx 1).trans rfl, (cell_of hh2 1).trans rfl, (cell_of hh2 2).trans rfl, (cell_of hh2 3).trans rfl, (cell_of hh2 4).trans rfl, (cell_of hh2 5).trans rfl⟩
  have HSD : Hid (SP b a B E rf ac n was A m c W2.drew) := Lib.hid ⟨HSP.out.s0, HSP.out.s1, HSP.out.t1, HSP.out.t2, HSP.out.t3, HSP.out.t4, HSP.out.t5⟩
  have HX := Lib.hid hX
  have HC : Hid (∀ W, Below w.heap.size w W → W.heap.size = w.heap.size + 2 → Calls Try.prog 85 #[.pointer (some ⟨b, 0, none⟩), .int .i64 cl, .int .i64 rf] W fun e w' => ∃ er, e = .returned (.int .i64 er) ∧ W.heap.size ≤ w'.heap.size ∧ (∀ x, w.heap.size ≤ x → x < W.heap.size → w'.heap[x]? = W.heap[x]?) ∧ X er w') := Lib.hid hc
  have HW1 := Lib.hid hW1
  have HW2 := Lib.hid hW2
  have HQ := Lib.hid hq
  have HA := Lib.hid ha
  have HB2 := Lib.hid hb2
  have HS2 := Lib.hid hs2
  have HH := Lib.hid hh
  have HLB : Hid (b < W2.heap.size) := Lib.hid (lt_of_heap hbx)
  have HLA : Hid (a < W2.heap.size) := Lib.hid (lt_of_heap hh2)
  clear hbox hc hX hb1 hb2 hh hh1 hh2 hbx hW1 hW2 hq hqq hs2
  unfold accV
  go_enter Try.func65, Try.ntmps65
  go_upto_region 1 with (fail)
  rw [← HW1.out, ← HW2.out, ← HQ.out, ← HA.out]
  clear ha
  go_upto_region 14 with (fail)
  have l0 := HSP.out.s0
  have l1 := HSP.out.s1
  have l2 := HSP.out.t1
  have l3 := HSP.out.t2
  have l4 := HSP.out.t3
  go_upto_region 33 with (first
    | (go_at_call 85; refine (HC.out _ HB2.out HS2.out).mono ?_; rintro e w3 ⟨er, rfl, hsz, hkp, hx⟩
       have HH3 : Hid (w3.heap[q]? = some (.cells #[.int .i64 0, .int .i64 0, .bool false, .slice none 0 0] 80 (0, 0))) := Lib.hid ((hkp q (by first | exact .inr (by have := HQ.out; omega) | (have := HQ.out; omega)) (by have := HQ.out; have := HS2.out; first | omega | (show q < W2.heap.size; omega))).trans HH.out)
       have HXX := Lib.hid hx
       have HSZ : Hid (w.heap.size + 2 ≤ w3.heap.size) := Lib.hid (by have := HS2.out; first | omega | (have h9 : W2.heap.size ≤ w3.heap.size := hsz; omega))
       have q0 : w3.cell? ⟨q, 0, none⟩ = some (.int .i64 0) := (cell_of HH3.out 0).trans rfl
       have q1 : w3.cell? ⟨q, 1, none⟩ = some (.int .i64 0) := (cell_of HH3.out 1).trans rfl
       have q2 : w3.cell? ⟨q, 2, none⟩ = some (.bool false) := (cell_of HH3.out 2).trans rfl
       have q3 : w3.cell? ⟨q, 3, none⟩ = some (.slice none 0 0) := (cell_of HH3.out 3).trans rfl
       have f0 := frozen_of HH3.out 0
       have f1 := frozen_of HH3.out 1
       have f2 := frozen_of HH3.out 2
       have f3 := frozen_of HH3.out 3
       clear hsz hkp hx k0 l0 l1 l2 l3 l4)
    | fail)
  have h4 := (heap_setCell_same _ _ 0 _ _ (.int .i64 er) (HH3.out))
  have hal := ((Al.refl w.heap.size (w.heap.size + 2) w3).set (a := ⟨q, 0, none⟩) (by show w.heap.size ≤ q; have := HQ.out; omega) (by show q < w.heap.size + 2; have := HQ.out; omega) (.int .i64 er))
  try clear q0 q1 q2 q3 f0 f1 f2 f3
  generalize (w3.setCell ⟨q, 0, none⟩ (.int .i64 er)) = w4 at *
  have q0 : w4.cell? ⟨q, 0, none⟩ = some (.int .i64 er) := (cell_of h4 0).trans rfl
  have q1 : w4.cell? ⟨q, 1, none⟩ = some (.int .i64 0) := (cell_of h4 1).trans rfl
  have q2 : w4.cell? ⟨q, 2, none⟩ = some (.bool false) := (cell_of h4 2).trans rfl
  have q3 : w4.cell? ⟨q, 3, none⟩ = some (.slice none 0 0) := (cell_of h4 3).trans rfl
  have f0 := frozen_of h4 0
  have f1 := frozen_of h4 1
  have f2 := frozen_of h4 2
  have f3 := frozen_of h4 3
  have H4 := Lib.hid h4
  have HAL := Lib.hid hal
  clear h4 hal
  go_wp2
  have hh := set4 H4.out (.int .i64 er) (.int .i64 0) (.bool false) (.slice none 0 0)
  have hal := HAL.out.set4 (q := q) (by have := HQ.out; omega) (by have := HQ.out; omega) (.int .i64 er) (.int .i64 0) (.bool false) (.slice none 0 0)
  generalize ((((w4.setCell ⟨q, 0, none⟩ (.int .i64 er)).setCell ⟨q, 1, none⟩ (.int .i64 0)).setCell ⟨q, 2, none⟩ (.bool false)).setCell ⟨q, 3, none⟩ (.slice none 0 0)) = W5 at *
  have p0 : W5.cell? ⟨q, 0, none⟩ = some (.int .i64 er) := (cell_of hh 0).trans rfl
  have p1 : W5.cell? ⟨q, 1, none⟩ = some (.int .i64 0) := (cell_of hh 1).trans rfl
  have p2 : W5.cell? ⟨q, 2, none⟩ = some (.bool false) := (cell_of hh 2).trans rfl
  have p3 : W5.cell? ⟨q, 3, none⟩ = some (.slice none 0 0) := (cell_of hh 3).trans rfl
  exact bodyPost_ret (v := resV er 0 false none 0 0) (by simp [results, Try.results65, go_sem, p0, p1, p2, p3, resV]) rfl ⟨er, rfl, by have := hal.size; have := HSZ.out; omega, HX.out _ _ _ HXX.out hal⟩
set_option maxRecDepth 100000 in
set_option maxHeartbeats 1600000 in
/-- perform at the kind 7. -/
theorem perf7 {X : Int → World → Prop} {b B E k : Nat} {root hold : Int} {w : World} (hbox : w.heap[b]? = some (.cells #[.pointer (some ⟨B, 0, none⟩), .pointer (some ⟨E, 0, none⟩), .int .i64 root, .int .i64 (k : Nat), .int .i64 hold] 135 (0, 0))) (cl rf ac n was : Int) (A : Option Addr) (m c : Nat)
    (hc : ∀ W, Below w.heap.size w W → W.heap.size = w.heap.size + 2 → Calls Try.prog 66 #[.pointer (some ⟨E, 0, none⟩)] W fun e w' => ∃ z, e = .returned (.int .i64 z) ∧ W.heap.size ≤ w'.heap.size ∧ (∀ x, w.heap.size ≤ x → x < W.heap.size → w'.heap[x]? = W.heap[x]?) ∧ X z w')
    (hX : ∀ z w' w'', X z w' → Al w.heap.size (w.heap.size + 2) w' w'' → X z w'') :
    Calls Try.prog 65 #[.pointer (some ⟨b, 0, none⟩), .int .i64 cl, accV 7 rf ac n was A m c] w fun e w' => ∃ z, e = .returned (resV 0 z false none 0 0) ∧ w.heap.size + 2 ≤ w'.heap.size ∧ X z w' := by
  obtain ⟨W1, hW1⟩ : ∃ W1 : World, W1 = w.alloc (.cells #[.int .i64 7, .int .i64 rf, .int .i64 ac, .int .i64 n, .int .u64 was, .slice A m c] 74) := ⟨_, rfl⟩
  have hb1 : Below w.heap.size w W1 := by rw [hW1]; exact below_alloc w _
  obtain ⟨a, ha⟩ : ∃ a, a = w.heap.size := ⟨_, rfl⟩
  have hh1 : W1.heap[a]? = some (.cells #[.int .i64 7, .int .i64 rf, .int .i64 ac, .int .i64 n, .int .u64 was, .slice A m c] 74 (0, 0)) := by rw [hW1, ha]; exact heap_alloc_new w _
  obtain ⟨W2, hW2⟩ : ∃ W2 : World, W2 = W1.alloc (.cells #[.int .i64 0, .int .i64 0, .bool false, .slice none 0 0] 80) := ⟨_, rfl⟩
  obtain ⟨q, hq⟩ : ∃ q, q = w.heap.size + 1 := ⟨_, rfl⟩
  have hqq : q = W1.heap.size := by rw [hW1, hq]; simp
  have hs2 : W2.heap.size = w.heap.size + 2 := by rw [hW2]; simp; omega
  have hh : W2.heap[q]? = some (.cells #[.int .i64 0, .int .i64 0, .bool false, .slice none 0 0] 80 (0, 0)) := by rw [hW2, hqq]; exact heap_alloc_new W1 _
  have hb2 : Below w.heap.size w W2 := by rw [hW2]; exact hb1.trans ((below_alloc W1 _).mono hb1.size)
  have hh2 : W2.heap[a]? = some (.cells #[.int .i64 7, .int .i64 rf, .int .i64 ac, .int .i64 n, .int .u64 was, .slice A m c] 74 (0, 0)) := by rw [hW2]; exact ((below_alloc W1 _).block _ (lt_of_heap hh1)).trans hh1
  have hbx : W2.heap[b]? = some (.cells #[.pointer (some ⟨B, 0, none⟩), .pointer (some ⟨E, 0, none⟩), .int .i64 root, .int .i64 (k : Nat), .int .i64 hold] 135 (0, 0)) := (hb2.block b (lt_of_heap hbox)).trans hbox
  have k0 : W2.cell? ⟨a, 0, none⟩ = some (.int .i64 7) := (cell_of hh2 0).trans rfl
  have HSP : Hid (SP b a B E rf ac n was A m c W2) := Lib.hid ⟨(cell_of hbx 0).trans rfl, (cell_of hbx 1).trans rfl, (cell_of hh2 1).trans rfl, (cell_of hh2 2).trans rfl, (cell_of hh2 3).trans rfl, (cell_of hh2 4).trans rfl, (cell_of hh2 5).trans rfl⟩
  have HSD : Hid (SP b a B E rf ac n was A m c W2.drew) := Lib.hid ⟨HSP.out.s0, HSP.out.s1, HSP.out.t1, HSP.out.t2, HSP.out.t3, HSP.out.t4, HSP.out.t5⟩
  have HX := Lib.hid hX
  have HC : Hid (∀ W, Below w.heap.size w W → W.heap.size = w.heap.size + 2 → Calls Try.prog 66 #[.pointer (some ⟨E, 0, none⟩)] W fun e w' => ∃ z, e = .returned (.int .i64 z) ∧ W.heap.size ≤ w'.heap.size ∧ (∀ x, w.heap.size ≤ x → x < W.heap.size → w'.heap[x]? = W.heap[x]?) ∧ X z w') := Lib.hid hc
  have HW1 := Lib.hid hW1
  have HW2 := Lib.hid hW2
  have HQ := Lib.hid hq
  have HA := Lib.hid ha
  have HB2 := Lib.hid hb2
  have HS2 := Lib.hid hs2
  have HH := Lib.hid hh
  have HLB : Hid (b < W2.heap.size) := Lib.hid (lt_of_heap hbx)
  have HLA : Hid (a < W2.heap.size) := Lib.hid (lt_of_heap hh2)
  clear hbox hc hX hb1 hb2 hh hh1 hh2 hbx hW1 hW2 hq hqq hs2
  unfold accV
  go_enter Try.func65, Try.ntmps65
  go_upto_region 1 with (fail)
  rw [← HW1.out, ← HW2.out, ← HQ.out, ← HA.out]
  clear ha
  go_upto_region 16 with (fail)
  have l0 := HSP.out.s0
  have l1 := HSP.out.s1
  have l2 := HSP.out.t1
  have l3 := HSP.out.t2
  have l4 := HSP.out.t3
  go_upto_region 33 with (first
    | (go_at_call 66; refine (HC.out _ HB2.out HS2.out).mono ?_; rintro e w3 ⟨z, rfl, hsz, hkp, hx⟩
       have HH3 : Hid (w3.heap[q]? = some (.cells #[.int .i64 0, .int .i64 0, .bool false, .slice none 0 0] 80 (0, 0))) := Lib.hid ((hkp q (by first | exact .inr (by have := HQ.out; omega) | (have := HQ.out; omega)) (by have := HQ.out; have := HS2.out; first | omega | (show q < W2.heap.size; omega))).trans HH.out)
       have HXX := Lib.hid hx
       have HSZ : Hid (w.heap.size + 2 ≤ w3.heap.size) := Lib.hid (by have := HS2.out; first | omega | (have h9 : W2.heap.size ≤ w3.heap.size := hsz; omega))
       have q0 : w3.cell? ⟨q, 0, none⟩ = some (.int .i64 0) := (cell_of HH3.out 0).trans rfl
       have q1 : w3.cell? ⟨q, 1, none⟩ = some (.int .i64 0) := (cell_of HH3.out 1).trans rfl
       have q2 : w3.cell? ⟨q, 2, none⟩ = some (.bool false) := (cell_of HH3.out 2).trans rfl
       have q3 : w3.cell? ⟨q, 3, none⟩ = some (.slice none 0 0) := (cell_of HH3.out 3).trans rfl
       have f0 := frozen_of HH3.out 0
       have f1 := frozen_of HH3.out 1
       have f2 := frozen_of HH3.out 2
       have f3 := frozen_of HH3.out 3
       clear hsz hkp hx k0 l0 l1 l2 l3 l4)
    | fail)
  have h4 := (heap_setCell_same _ _ 1 _ _ (.int .i64 z) (HH3.out))
  have hal := ((Al.refl w.heap.size (w.heap.size + 2) w3).set (a := ⟨q, 1, none⟩) (by show w.heap.size ≤ q; have := HQ.out; omega) (by show q < w.heap.size + 2; have := HQ.out; omega) (.int .i64 z))
  try clear q0 q1 q2 q3 f0 f1 f2 f3
  generalize (w3.setCell ⟨q, 1, none⟩ (.int .i64 z)) = w4 at *
  have q0 : w4.cell? ⟨q, 0, none⟩ = some (.int .i64 0) := (cell_of h4 0).trans rfl
  have q1 : w4.cell? ⟨q, 1, none⟩ = some (.int .i64 z) := (cell_of h4 1).trans rfl
  have q2 : w4.cell? ⟨q, 2, none⟩ = some (.bool false) := (cell_of h4 2).trans rfl
  have q3 : w4.cell? ⟨q, 3, none⟩ = some (.slice none 0 0) := (cell_of h4 3).trans rfl
  have f0 := frozen_of h4 0
  have f1 := frozen_of h4 1
  have f2 := frozen_of h4 2
  have f3 := frozen_of h4 3
  have H4 := Lib.hid h4
  have HAL := Lib.hid hal
  clear h4 hal
  go_wp2
  have hh := set4 H4.out (.int .i64 0) (.int .i64 z) (.bool false) (.slice none 0 0)
  have hal := HAL.out.set4 (q := q) (by have := HQ.out; omega) (by have := HQ.out; omega) (.int .i64 0) (.int .i64 z) (.bool false) (.slice none 0 0)
  generalize ((((w4.setCell ⟨q, 0, none⟩ (.int .i64 0)).setCell ⟨q, 1, none⟩ (.int .i64 z)).setCell ⟨q, 2, none⟩ (.bool false)).setCell ⟨q, 3, none⟩ (.slice none 0 0)) = W5 at *
  have p0 : W5.cell? ⟨q, 0, none⟩ = some (.int .i64 0) := (cell_of hh 0).trans rfl
  have p1 : W5.cell? ⟨q, 1, none⟩ = some (.int .i64 z) := (cell_of hh 1).trans rfl
  have p2 : W5.cell? ⟨q, 2, none⟩ = some (.bool false) := (cell_of hh 2).trans rfl
  have p3 : W5.cell? ⟨q, 3, none⟩ = some (.slice none 0 0) := (cell_of hh 3).trans rfl
  exact bodyPost_ret (v := resV 0 z false none 0 0) (by simp [results, Try.results65, go_sem, p0, p1, p2, p3, resV]) rfl ⟨z, rfl, by have := hal.size; have := HSZ.out; omega, HX.out _ _ _ HXX.out hal⟩
set_option maxRecDepth 100000 in
set_option maxHeartbeats 1600000 in
/-- perform at the kind 8. -/
theorem perf8 {X : Bool → World → Prop} {b B E k : Nat} {root hold : Int} {w : World} (hbox : w.heap[b]? = some (.cells #[.pointer (some ⟨B, 0, none⟩), .pointer (some ⟨E, 0, none⟩), .int .i64 root, .int .i64 (k : Nat), .int .i64 hold] 135 (0, 0))) (cl rf ac n was : Int) (A : Option Addr) (m c : Nat)
    (hc : ∀ W, Below w.heap.size w W → W.heap.size = w.heap.size + 2 → Calls Try.prog 86 #[.pointer (some ⟨E, 0, none⟩), .int .i64 cl, .int .i64 n] W fun e w' => ∃ ok, e = .returned (.bool ok) ∧ W.heap.size ≤ w'.heap.size ∧ (∀ x, x = b ∨ w.heap.size ≤ x → x < W.heap.size → w'.heap[x]? = W.heap[x]?) ∧ X ok w')
    (hX : ∀ ok w' w'', X ok w' → Al w.heap.size (w.heap.size + 2) w' w'' → X ok w'') :
    Calls Try.prog 65 #[.pointer (some ⟨b, 0, none⟩), .int .i64 cl, accV 8 rf ac n was A m c] w fun e w' => ∃ ok, e = .returned (resV 0 0 ok none 0 0) ∧ w.heap.size + 2 ≤ w'.heap.size ∧ X ok w' := by
  obtain ⟨W1, hW1⟩ : ∃ W1 : World, W1 = w.alloc (.cells #[.int .i64 8, .int .i64 rf, .int .i64 ac, .int .i64 n, .int .u64 was, .slice A m c] 74) := ⟨_, rfl⟩
  have hb1 : Below w.heap.size w W1 := by rw [hW1]; exact below_alloc w _
  obtain ⟨a, ha⟩ : ∃ a, a = w.heap.size := ⟨_, rfl⟩
  have hh1 : W1.heap[a]? = some (.cells #[.int .i64 8, .int .i64 rf, .int .i64 ac, .int .i64 n, .int .u64 was, .slice A m c] 74 (0, 0)) := by rw [hW1, ha]; exact heap_alloc_new w _
  obtain ⟨W2, hW2⟩ : ∃ W2 : World, W2 = W1.alloc (.cells #[.int .i64 0, .int .i64 0, .bool false, .slice none 0 0] 80) := ⟨_, rfl⟩
  obtain ⟨q, hq⟩ : ∃ q, q = w.heap.size + 1 := ⟨_, rfl⟩
  have hqq : q = W1.heap.size := by rw [hW1, hq]; simp
  have hs2 : W2.heap.size = w.heap.size + 2 := by rw [hW2]; simp; omega
  have hh : W2.heap[q]? = some (.cells #[.int .i64 0, .int .i64 0, .bool false, .slice none 0 0] 80 (0, 0)) := by rw [hW2, hqq]; exact heap_alloc_new W1 _
  have hb2 : Below w.heap.size w W2 := by rw [hW2]; exact hb1.trans ((below_alloc W1 _).mono hb1.size)
  have hh2 : W2.heap[a]? = some (.cells #[.int .i64 8, .int .i64 rf, .int .i64 ac, .int .i64 n, .int .u64 was, .slice A m c] 74 (0, 0)) := by rw [hW2]; exact ((below_alloc W1 _).block _ (lt_of_heap hh1)).trans hh1
  have hbx : W2.heap[b]? = some (.cells #[.pointer (some ⟨B, 0, none⟩), .pointer (some ⟨E, 0, none⟩), .int .i64 root, .int .i64 (k : Nat), .int .i64 hold] 135 (0, 0)) := (hb2.block b (lt_of_heap hbox)).trans hbox
  have k0 : W2.cell? ⟨a, 0, none⟩ = some (.int .i64 8) := (cell_of hh2 0).trans rfl
  have HSP : Hid (SP b a B E rf ac n was A m c W2) := Lib.hid ⟨(cell_of hbx 0).trans rfl, (cell_of hbx 1).trans rfl, (cell_of hh2 1).trans rfl, (cell_of hh2 2).trans rfl, (cell_of hh2 3).trans rfl, (cell_of hh2 4).trans rfl, (cell_of hh2 5).trans rfl⟩
  have HSD : Hid (SP b a B E rf ac n was A m c W2.drew) := Lib.hid ⟨HSP.out.s0, HSP.out.s1, HSP.out.t1, HSP.out.t2, HSP.out.t3, HSP.out.t4, HSP.out.t5⟩
  have HX := Lib.hid hX
  have HC : Hid (∀ W, Below w.heap.size w W → W.heap.size = w.heap.size + 2 → Calls Try.prog 86 #[.pointer (some ⟨E, 0, none⟩), .int .i64 cl, .int .i64 n] W fun e w' => ∃ ok, e = .returned (.bool ok) ∧ W.heap.size ≤ w'.heap.size ∧ (∀ x, x = b ∨ w.heap.size ≤ x → x < W.heap.size → w'.heap[x]? = W.heap[x]?) ∧ X ok w') := Lib.hid hc
  have HW1 := Lib.hid hW1
  have HW2 := Lib.hid hW2
  have HQ := Lib.hid hq
  have HA := Lib.hid ha
  have HB2 := Lib.hid hb2
  have HS2 := Lib.hid hs2
  have HH := Lib.hid hh
  have HLB : Hid (b < W2.heap.size) := Lib.hid (lt_of_heap hbx)
  have HLA : Hid (a < W2.heap.size) := Lib.hid (lt_of_heap hh2)
  clear hbox hc hX hb1 hb2 hh hh1 hh2 hbx hW1 hW2 hq hqq hs2
  unfold accV
  go_enter Try.func65, Try.ntmps65
  go_upto_region 1 with (fail)
  rw [← HW1.out, ← HW2.out, ← HQ.out, ← HA.out]
  clear ha
  go_upto_region 18 with (fail)
  refine wp_region_K (SP b a B E rf ac n was A m c) 8 (by kernel_rfl) ?_
  refine wpAnyK_pure (i := 0) (oi := _) (v := ?_) (by rfl) (by kernel_rfl) (by intro _ _ _ h; exact h) (Or.inl ⟨by rfl, ?_⟩) ?_
  rotate_left 1
  · intro w' _
    go_simp
    all_goals with_reducible rfl
  simp only [Act.put, List.getElem_toArray, List.getElem_cons_zero, List.getElem_cons_succ, List.setIfInBounds_toArray, List.set_cons_zero, List.set_cons_succ]
  refine wpAnyK_pure (i := 1) (oi := _) (v := ?_) (by rfl) (by kernel_rfl) (by intro _ _ _ h; exact h) (Or.inl ⟨by rfl, ?_⟩) ?_
  rotate_left 1
  · intro w' _
    go_simp
    all_goals with_reducible rfl
  simp only [Act.put, List.getElem_toArray, List.getElem_cons_zero, List.getElem_cons_succ, List.setIfInBounds_toArray, List.set_cons_zero, List.set_cons_succ]
  refine wpAnyK_pure (i := 2) (oi := _) (v := ?_) (by rfl) (by kernel_rfl) (by intro _ _ _ h; exact h) (Or.inl ⟨by rfl, ?_⟩) ?_
  rotate_left 1
  · intro w' _
    go_simp
    all_goals with_reducible rfl
  simp only [Act.put, List.getElem_toArray, List.getElem_cons_zero, List.getElem_cons_succ, List.setIfInBounds_toArray, List.set_cons_zero, List.set_cons_succ]
  refine wpAnyK_take (i := 3) (oi := _) (v := ?_) (by rfl) (by kernel_rfl) (by intro _ _ _ h; exact h) HSD.out (Or.inl ⟨by rfl, ?_⟩) ?_
  rotate_left 1
  · intro w' hl
    have l0 := hl.s0
    have l1 := hl.s1
    have l2 := hl.t1
    have l3 := hl.t2
    have l4 := hl.t3
    have l5 := hl.t4
    have l6 := hl.t5
    clear hl
    go_simp
    all_goals with_reducible rfl
  simp only [Act.put, List.getElem_toArray, List.getElem_cons_zero, List.getElem_cons_succ, List.setIfInBounds_toArray, List.set_cons_zero, List.set_cons_succ]
  refine wpAnyK_pure (i := 4) (oi := _) (v := ?_) (by rfl) (by kernel_rfl) (by intro _ _ _ h; exact h) (Or.inl ⟨by rfl, ?_⟩) ?_
  rotate_left 1
  · intro w' _
    go_simp
    all_goals with_reducible rfl
  simp only [Act.put, List.getElem_toArray, List.getElem_cons_zero, List.getElem_cons_succ, List.setIfInBounds_toArray, List.set_cons_zero, List.set_cons_succ]
  refine wpAnyK_pure (i := 5) (oi := _) (v := ?_) (by rfl) (by kernel_rfl) (by intro _ _ _ h; exact h) (Or.inl ⟨by rfl, ?_⟩) ?_
  rotate_left 1
  · intro w' _
    go_simp
    all_goals with_reducible rfl
  simp only [Act.put, List.getElem_toArray, List.getElem_cons_zero, List.getElem_cons_succ, List.setIfInBounds_toArray, List.set_cons_zero, List.set_cons_succ]
  refine wpAnyK_take (i := 6) (oi := _) (v := ?_) (by rfl) (by kernel_rfl) (by intro _ _ _ h; exact h) HSD.out (Or.inl ⟨by rfl, ?_⟩) ?_
  rotate_left 1
  · intro w' hl
    have l0 := hl.s0
    have l1 := hl.s1
    have l2 := hl.t1
    have l3 := hl.t2
    have l4 := hl.t3
    have l5 := hl.t4
    have l6 := hl.t5
    clear hl
    go_simp
    all_goals with_reducible rfl
  simp only [Act.put, List.getElem_toArray, List.getElem_cons_zero, List.getElem_cons_succ, List.setIfInBounds_toArray, List.set_cons_zero, List.set_cons_succ]
  refine wpAnyK_all (rs := [7]) (by kernel_rfl) (by simp) ?_
  intro ix hix
  simp only [List.mem_cons, List.not_mem_nil, or_false] at hix
  subst hix
  refine wpK_op (o := _) (by rfl) (fun K hK => ?_)
  go_simp
  go_at_call 86
  refine (HC.out _ (HB2.out.trans ((below_drew _).mono HB2.out.size)) HS2.out).mono ?_
  rintro e w3 ⟨ok, rfl, hsz, hkp, hx⟩
  have HS3 : Hid (SP b a B E rf ac n was A m c w3) := Lib.hid (by
    have hS := HSP.out
    have e1 : w3.heap[b]? = W2.heap[b]? := hkp b (.inl rfl) HLB.out
    have e2 : w3.heap[a]? = W2.heap[a]? := hkp a (.inr (by have := HA.out; omega)) HLA.out
    exact ⟨(World.cell?_of_block (a := ⟨b, 0, none⟩) e1).trans hS.s0, (World.cell?_of_block (a := ⟨b, 1, none⟩) e1).trans hS.s1, (World.cell?_of_block (a := ⟨a, 1, none⟩) e2).trans hS.t1, (World.cell?_of_block (a := ⟨a, 2, none⟩) e2).trans hS.t2, (World.cell?_of_block (a := ⟨a, 3, none⟩) e2).trans hS.t3, (World.cell?_of_block (a := ⟨a, 4, none⟩) e2).trans hS.t4, (World.cell?_of_block (a := ⟨a, 5, none⟩) e2).trans hS.t5⟩)
  have HH3 : Hid (w3.heap[q]? = some (.cells #[.int .i64 0, .int .i64 0, .bool false, .slice none 0 0] 80 (0, 0))) := Lib.hid ((hkp q (by first | exact .inr (by have := HQ.out; omega) | (have := HQ.out; omega)) (by have := HQ.out; have := HS2.out; first | omega | (show q < W2.heap.size; omega))).trans HH.out)
  have HXX := Lib.hid hx
  have HSZ : Hid (w.heap.size + 2 ≤ w3.heap.size) := Lib.hid (by have := HS2.out; first | omega | (have h9 : W2.heap.size ≤ w3.heap.size := hsz; omega))
  refine hK _ _ (fun _ _ => HS3.out) ?_
  clear hK K
  try simp only [Act.put, List.getElem_toArray, List.getElem_cons_zero, List.getElem_cons_succ, List.setIfInBounds_toArray, List.set_cons_zero, List.set_cons_succ]
  clear hsz hkp hx
  refine wpAnyK_pure (i := 8) (oi := _) (v := ?_) (by rfl) (by kernel_rfl) (by intro _ _ _ h; exact h) (Or.inl ⟨by rfl, ?_⟩) ?_
  rotate_left 1
  · intro w' _
    go_simp
    all_goals with_reducible rfl
  simp only [Act.put, List.getElem_toArray, List.getElem_cons_zero, List.getElem_cons_succ, List.setIfInBounds_toArray, List.set_cons_zero, List.set_cons_succ]
  have q0 : w3.cell? ⟨q, 0, none⟩ = some (.int .i64 0) := (cell_of HH3.out 0).trans rfl
  have q1 : w3.cell? ⟨q, 1, none⟩ = some (.int .i64 0) := (cell_of HH3.out 1).trans rfl
  have q2 : w3.cell? ⟨q, 2, none⟩ = some (.bool false) := (cell_of HH3.out 2).trans rfl
  have q3 : w3.cell? ⟨q, 3, none⟩ = some (.slice none 0 0) := (cell_of HH3.out 3).trans rfl
  have f0 := frozen_of HH3.out 0
  have f1 := frozen_of HH3.out 1
  have f2 := frozen_of HH3.out 2
  have f3 := frozen_of HH3.out 3
  refine wpAnyK_all (rs := [9]) (by kernel_rfl) (by simp) ?_
  intro ix hix
  simp only [List.mem_cons, List.not_mem_nil, or_false] at hix
  subst hix
  refine wpK_op (o := _) (by rfl) (fun K hK => ?_)
  go_simp
  refine hK _ _ (fun h => absurd h (by omega)) ?_
  clear hK K
  try simp only [Act.put, List.getElem_toArray, List.getElem_cons_zero, List.getElem_cons_succ, List.setIfInBounds_toArray, List.set_cons_zero, List.set_cons_succ]
  refine wpAnyK_done (by kernel_rfl) ?_ _
  have h4 := (heap_setCell_same _ _ 2 _ _ (.bool ok) (HH3.out))
  have hal := ((Al.refl w.heap.size (w.heap.size + 2) w3).set (a := ⟨q, 2, none⟩) (by show w.heap.size ≤ q; have := HQ.out; omega) (by show q < w.heap.size + 2; have := HQ.out; omega) (.bool ok))
  try clear q0 q1 q2 q3 f0 f1 f2 f3
  generalize (w3.setCell ⟨q, 2, none⟩ (.bool ok)) = w4 at *
  have q0 : w4.cell? ⟨q, 0, none⟩ = some (.int .i64 0) := (cell_of h4 0).trans rfl
  have q1 : w4.cell? ⟨q, 1, none⟩ = some (.int .i64 0) := (cell_of h4 1).trans rfl
  have q2 : w4.cell? ⟨q, 2, none⟩ = some (.bool ok) := (cell_of h4 2).trans rfl
  have q3 : w4.cell? ⟨q, 3, none⟩ = some (.slice none 0 0) := (cell_of h4 3).trans rfl
  have f0 := frozen_of h4 0
  have f1 := frozen_of h4 1
  have f2 := frozen_of h4 2
  have f3 := frozen_of h4 3
  have H4 := Lib.hid h4
  have HAL := Lib.hid hal
  clear h4 hal
  go_wp2
  have hh := set4 H4.out (.int .i64 0) (.int .i64 0) (.bool ok) (.slice none 0 0)
  have hal := HAL.out.set4 (q := q) (by have := HQ.out; omega) (by have := HQ.out; omega) (.int .i64 0) (.int .i64 0) (.bool ok) (.slice none 0 0)
  generalize ((((w4.setCell ⟨q, 0, none⟩ (.int .i64 0)).setCell ⟨q, 1, none⟩ (.int .i64 0)).setCell ⟨q, 2, none⟩ (.bool ok)).setCell ⟨q, 3, none⟩ (.slice none 0 0)) = W5 at *
  have p0 : W5.cell? ⟨q, 0, none⟩ = some (.int .i64 0) := (cell_of hh 0).trans rfl
  have p1 : W5.cell? ⟨q, 1, none⟩ = some (.int .i64 0) := (cell_of hh 1).trans rfl
  have p2 : W5.cell? ⟨q, 2, none⟩ = some (.bool ok) := (cell_of hh 2).trans rfl
  have p3 : W5.cell? ⟨q, 3, none⟩ = some (.slice none 0 0) := (cell_of hh 3).trans rfl
  exact bodyPost_ret (v := resV 0 0 ok none 0 0) (by simp [results, Try.results65, go_sem, p0, p1, p2, p3, resV]) rfl ⟨ok, rfl, by have := hal.size; have := HSZ.out; omega, HX.out _ _ _ HXX.out hal⟩
set_option maxRecDepth 100000 in
set_option maxHeartbeats 1600000 in
/-- perform at the kind 9. -/
theorem perf9 {X : Bool → World → Prop} {b B E k : Nat} {root hold : Int} {w : World} (hbox : w.heap[b]? = some (.cells #[.pointer (some ⟨B, 0, none⟩), .pointer (some ⟨E, 0, none⟩), .int .i64 root, .int .i64 (k : Nat), .int .i64 hold] 135 (0, 0))) (cl rf ac n was : Int) (A : Option Addr) (m c : Nat)
    (hc : ∀ W, Below w.heap.size w W → W.heap.size = w.heap.size + 2 → Calls Try.prog 87 #[.pointer (some ⟨E, 0, none⟩), .int .i64 cl] W fun e w' => ∃ ok, e = .returned (.bool ok) ∧ W.heap.size ≤ w'.heap.size ∧ (∀ x, w.heap.size ≤ x → x < W.heap.size → w'.heap[x]? = W.heap[x]?) ∧ X ok w')
    (hX : ∀ ok w' w'', X ok w' → Al w.heap.size (w.heap.size + 2) w' w'' → X ok w'') :
    Calls Try.prog 65 #[.pointer (some ⟨b, 0, none⟩), .int .i64 cl, accV 9 rf ac n was A m c] w fun e w' => ∃ ok, e = .returned (resV 0 0 ok none 0 0) ∧ w.heap.size + 2 ≤ w'.heap.size ∧ X ok w' := by
  obtain ⟨W1, hW1⟩ : ∃ W1 : World, W1 = w.alloc (.cells #[.int .i64 9, .int .i64 rf, .int .i64 ac, .int .i64 n, .int .u64 was, .slice A m c] 74) := ⟨_, rfl⟩
  have hb1 : Below w.heap.size w W1 := by rw [hW1]; exact below_alloc w _
  obtain ⟨a, ha⟩ : ∃ a, a = w.heap.size := ⟨_, rfl⟩
  have hh1 : W1.heap[a]? = some (.cells #[.int .i64 9, .int .i64 rf, .int .i64 ac, .int .i64 n, .int .u64 was, .slice A m c] 74 (0, 0)) := by rw [hW1, ha]; exact heap_alloc_new w _
  obtain ⟨W2, hW2⟩ : ∃ W2 : World, W2 = W1.alloc (.cells #[.int .i64 0, .int .i64 0, .bool false, .slice none 0 0] 80) := ⟨_, rfl⟩
  obtain ⟨q, hq⟩ : ∃ q, q = w.heap.size + 1 := ⟨_, rfl⟩
  have hqq : q = W1.heap.size := by rw [hW1, hq]; simp
  have hs2 : W2.heap.size = w.heap.size + 2 := by rw [hW2]; simp; omega
  have hh : W2.heap[q]? = some (.cells #[.int .i64 0, .int .i64 0, .bool false, .slice none 0 0] 80 (0, 0)) := by rw [hW2, hqq]; exact heap_alloc_new W1 _
  have hb2 : Below w.heap.size w W2 := by rw [hW2]; exact hb1.trans ((below_alloc W1 _).mono hb1.size)
  have hh2 : W2.heap[a]? = some (.cells #[.int .i64 9, .int .i64 rf, .int .i64 ac, .int .i64 n, .int .u64 was, .slice A m c] 74 (0, 0)) := by rw [hW2]; exact ((below_alloc W1 _).block _ (lt_of_heap hh1)).trans hh1
  have hbx : W2.heap[b]? = some (.cells #[.pointer (some ⟨B, 0, none⟩), .pointer (some ⟨E, 0, none⟩), .int .i64 root, .int .i64 (k : Nat), .int .i64 hold] 135 (0, 0)) := (hb2.block b (lt_of_heap hbox)).trans hbox
  have k0 : W2.cell? ⟨a, 0, none⟩ = some (.int .i64 9) := (cell_of hh2 0).trans rfl
  have HSP : Hid (SP b a B E rf ac n was A m c W2) := Lib.hid ⟨(cell_of hbx 0).trans rfl, (cell_of hbx 1).trans rfl, (cell_of hh2 1).trans rfl, (cell_of hh2 2).trans rfl, (cell_of hh2 3).trans rfl, (cell_of hh2 4).trans rfl, (cell_of hh2 5).trans rfl⟩
  have HSD : Hid (SP b a B E rf ac n was A m c W2.drew) := Lib.hid ⟨HSP.out.s0, HSP.out.s1, HSP.out.t1, HSP.out.t2, HSP.out.t3, HSP.out.t4, HSP.out.t5⟩
  have HX := Lib.hid hX
  have HC : Hid (∀ W, Below w.heap.size w W → W.heap.size = w.heap.size + 2 → Calls Try.prog 87 #[.pointer (some ⟨E, 0, none⟩), .int .i64 cl] W fun e w' => ∃ ok, e = .returned (.bool ok) ∧ W.heap.size ≤ w'.heap.size ∧ (∀ x, w.heap.size ≤ x → x < W.heap.size → w'.heap[x]? = W.heap[x]?) ∧ X ok w') := Lib.hid hc
  have HW1 := Lib.hid hW1
  have HW2 := Lib.hid hW2
  have HQ := Lib.hid hq
  have HA := Lib.hid ha
  have HB2 := Lib.hid hb2
  have HS2 := Lib.hid hs2
  have HH := Lib.hid hh
  have HLB : Hid (b < W2.heap.size) := Lib.hid (lt_of_heap hbx)
  have HLA : Hid (a < W2.heap.size) := Lib.hid (lt_of_heap hh2)
  clear hbox hc hX hb1 hb2 hh hh1 hh2 hbx hW1 hW2 hq hqq hs2
  unfold accV
  go_enter Try.func65, Try.ntmps65
  go_upto_region 1 with (fail)
  rw [← HW1.out, ← HW2.out, ← HQ.out, ← HA.out]
  clear ha
  go_upto_region 20 with (fail)
  have l0 := HSP.out.s0
  have l1 := HSP.out.s1
  have l2 := HSP.out.t1
  have l3 := HSP.out.t2
  have l4 := HSP.out.t3
  go_upto_region 33 with (first
    | (go_at_call 87; refine (HC.out _ HB2.out HS2.out).mono ?_; rintro e w3 ⟨ok, rfl, hsz, hkp, hx⟩
       have HH3 : Hid (w3.heap[q]? = some (.cells #[.int .i64 0, .int .i64 0, .bool false, .slice none 0 0] 80 (0, 0))) := Lib.hid ((hkp q (by first | exact .inr (by have := HQ.out; omega) | (have := HQ.out; omega)) (by have := HQ.out; have := HS2.out; first | omega | (show q < W2.heap.size; omega))).trans HH.out)
       have HXX := Lib.hid hx
       have HSZ : Hid (w.heap.size + 2 ≤ w3.heap.size) := Lib.hid (by have := HS2.out; first | omega | (have h9 : W2.heap.size ≤ w3.heap.size := hsz; omega))
       have q0 : w3.cell? ⟨q, 0, none⟩ = some (.int .i64 0) := (cell_of HH3.out 0).trans rfl
       have q1 : w3.cell? ⟨q, 1, none⟩ = some (.int .i64 0) := (cell_of HH3.out 1).trans rfl
       have q2 : w3.cell? ⟨q, 2, none⟩ = some (.bool false) := (cell_of HH3.out 2).trans rfl
       have q3 : w3.cell? ⟨q, 3, none⟩ = some (.slice none 0 0) := (cell_of HH3.out 3).trans rfl
       have f0 := frozen_of HH3.out 0
       have f1 := frozen_of HH3.out 1
       have f2 := frozen_of HH3.out 2
       have f3 := frozen_of HH3.out 3
       clear hsz hkp hx k0 l0 l1 l2 l3 l4)
    | fail)
  have h4 := (heap_setCell_same _ _ 2 _ _ (.bool ok) (HH3.out))
  have hal := ((Al.refl w.heap.size (w.heap.size + 2) w3).set (a := ⟨q, 2, none⟩) (by show w.heap.size ≤ q; have := HQ.out; omega) (by show q < w.heap.size + 2; have := HQ.out; omega) (.bool ok))
  try clear q0 q1 q2 q3 f0 f1 f2 f3
  generalize (w3.setCell ⟨q, 2, none⟩ (.bool ok)) = w4 at *
  have q0 : w4.cell? ⟨q, 0, none⟩ = some (.int .i64 0) := (cell_of h4 0).trans rfl
  have q1 : w4.cell? ⟨q, 1, none⟩ = some (.int .i64 0) := (cell_of h4 1).trans rfl
  have q2 : w4.cell? ⟨q, 2, none⟩ = some (.bool ok) := (cell_of h4 2).trans rfl
  have q3 : w4.cell? ⟨q, 3, none⟩ = some (.slice none 0 0) := (cell_of h4 3).trans rfl
  have f0 := frozen_of h4 0
  have f1 := frozen_of h4 1
  have f2 := frozen_of h4 2
  have f3 := frozen_of h4 3
  have H4 := Lib.hid h4
  have HAL := Lib.hid hal
  clear h4 hal
  go_wp2
  have hh := set4 H4.out (.int .i64 0) (.int .i64 0) (.bool ok) (.slice none 0 0)
  have hal := HAL.out.set4 (q := q) (by have := HQ.out; omega) (by have := HQ.out; omega) (.int .i64 0) (.int .i64 0) (.bool ok) (.slice none 0 0)
  generalize ((((w4.setCell ⟨q, 0, none⟩ (.int .i64 0)).setCell ⟨q, 1, none⟩ (.int .i64 0)).setCell ⟨q, 2, none⟩ (.bool ok)).setCell ⟨q, 3, none⟩ (.slice none 0 0)) = W5 at *
  have p0 : W5.cell? ⟨q, 0, none⟩ = some (.int .i64 0) := (cell_of hh 0).trans rfl
  have p1 : W5.cell? ⟨q, 1, none⟩ = some (.int .i64 0) := (cell_of hh 1).trans rfl
  have p2 : W5.cell? ⟨q, 2, none⟩ = some (.bool ok) := (cell_of hh 2).trans rfl
  have p3 : W5.cell? ⟨q, 3, none⟩ = some (.slice none 0 0) := (cell_of hh 3).trans rfl
  exact bodyPost_ret (v := resV 0 0 ok none 0 0) (by simp [results, Try.results65, go_sem, p0, p1, p2, p3, resV]) rfl ⟨ok, rfl, by have := hal.size; have := HSZ.out; omega, HX.out _ _ _ HXX.out hal⟩
set_option maxRecDepth 100000 in
set_option maxHeartbeats 1600000 in
/-- perform at the kind 10. -/
theorem perf10 {X : Int → World → Prop} {b B E k : Nat} {root hold : Int} {w : World} (hbox : w.heap[b]? = some (.cells #[.pointer (some ⟨B, 0, none⟩), .pointer (some ⟨E, 0, none⟩), .int .i64 root, .int .i64 (k : Nat), .int .i64 hold] 135 (0, 0))) (cl rf ac n was : Int) (A : Option Addr) (m c : Nat)
    (hc : ∀ W, Below w.heap.size w W → W.heap.size = w.heap.size + 2 → Calls Try.prog 88 #[.pointer (some ⟨E, 0, none⟩), .int .i64 n] W fun e w' => ∃ z, e = .returned (.int .i64 z) ∧ W.heap.size ≤ w'.heap.size ∧ (∀ x, x = b ∨ w.heap.size ≤ x → x < W.heap.size → w'.heap[x]? = W.heap[x]?) ∧ X z w')
    (hX : ∀ z w' w'', X z w' → Al w.heap.size (w.heap.size + 2) w' w'' → X z w'') :
    Calls Try.prog 65 #[.pointer (some ⟨b, 0, none⟩), .int .i64 cl, accV 10 rf ac n was A m c] w fun e w' => ∃ z, e = .returned (resV 0 z false none 0 0) ∧ w.heap.size + 2 ≤ w'.heap.size ∧ X z w' := by
  obtain ⟨W1, hW1⟩ : ∃ W1 : World, W1 = w.alloc (.cells #[.int .i64 10, .int .i64 rf, .int .i64 ac, .int .i64 n, .int .u64 was, .slice A m c] 74) := ⟨_, rfl⟩
  have hb1 : Below w.heap.size w W1 := by rw [hW1]; exact below_alloc w _
  obtain ⟨a, ha⟩ : ∃ a, a = w.heap.size := ⟨_, rfl⟩
  have hh1 : W1.heap[a]? = some (.cells #[.int .i64 10, .int .i64 rf, .int .i64 ac, .int .i64 n, .int .u64 was, .slice A m c] 74 (0, 0)) := by rw [hW1, ha]; exact heap_alloc_new w _
  obtain ⟨W2, hW2⟩ : ∃ W2 : World, W2 = W1.alloc (.cells #[.int .i64 0, .int .i64 0, .bool false, .slice none 0 0] 80) := ⟨_, rfl⟩
  obtain ⟨q, hq⟩ : ∃ q, q = w.heap.size + 1 := ⟨_, rfl⟩
  have hqq : q = W1.heap.size := by rw [hW1, hq]; simp
  have hs2 : W2.heap.size = w.heap.size + 2 := by rw [hW2]; simp; omega
  have hh : W2.heap[q]? = some (.cells #[.int .i64 0, .int .i64 0, .bool false, .slice none 0 0] 80 (0, 0)) := by rw [hW2, hqq]; exact heap_alloc_new W1 _
  have hb2 : Below w.heap.size w W2 := by rw [hW2]; exact hb1.trans ((below_alloc W1 _).mono hb1.size)
  have hh2 : W2.heap[a]? = some (.cells #[.int .i64 10, .int .i64 rf, .int .i64 ac, .int .i64 n, .int .u64 was, .slice A m c] 74 (0, 0)) := by rw [hW2]; exact ((below_alloc W1 _).block _ (lt_of_heap hh1)).trans hh1
  have hbx : W2.heap[b]? = some (.cells #[.pointer (some ⟨B, 0, none⟩), .pointer (some ⟨E, 0, none⟩), .int .i64 root, .int .i64 (k : Nat), .int .i64 hold] 135 (0, 0)) := (hb2.block b (lt_of_heap hbox)).trans hbox
  have k0 : W2.cell? ⟨a, 0, none⟩ = some (.int .i64 10) := (cell_of hh2 0).trans rfl
  have HSP : Hid (SP b a B E rf ac n was A m c W2) := Lib.hid ⟨(cell_of hbx 0).trans rfl, (cell_of hbx 1).trans rfl, (cell_of hh2 1).trans rfl, (cell_of hh2 2).trans rfl, (cell_of hh2 3).trans rfl, (cell_of hh2 4).trans rfl, (cell_of hh2 5).trans rfl⟩
  have HSD : Hid (SP b a B E rf ac n was A m c W2.drew) := Lib.hid ⟨HSP.out.s0, HSP.out.s1, HSP.out.t1, HSP.out.t2, HSP.out.t3, HSP.out.t4, HSP.out.t5⟩
  have HX := Lib.hid hX
  have HC : Hid (∀ W, Below w.heap.size w W → W.heap.size = w.heap.size + 2 → Calls Try.prog 88 #[.pointer (some ⟨E, 0, none⟩), .int .i64 n] W fun e w' => ∃ z, e = .returned (.int .i64 z) ∧ W.heap.size ≤ w'.heap.size ∧ (∀ x, x = b ∨ w.heap.size ≤ x → x < W.heap.size → w'.heap[x]? = W.heap[x]?) ∧ X z w') := Lib.hid hc
  have HW1 := Lib.hid hW1
  have HW2 := Lib.hid hW2
  have HQ := Lib.hid hq
  have HA := Lib.hid ha
  have HB2 := Lib.hid hb2
  have HS2 := Lib.hid hs2
  have HH := Lib.hid hh
  have HLB : Hid (b < W2.heap.size) := Lib.hid (lt_of_heap hbx)
  have HLA : Hid (a < W2.heap.size) := Lib.hid (lt_of_heap hh2)
  clear hbox hc hX hb1 hb2 hh hh1 hh2 hbx hW1 hW2 hq hqq hs2
  unfold accV
  go_enter Try.func65, Try.ntmps65
  go_upto_region 1 with (fail)
  rw [← HW1.out, ← HW2.out, ← HQ.out, ← HA.out]
  clear ha
  go_upto_region 22 with (fail)
  refine wp_region_K (SP b a B E rf ac n was A m c) 7 (by kernel_rfl) ?_
  refine wpAnyK_pure (i := 0) (oi := _) (v := ?_) (by rfl) (by kernel_rfl) (by intro _ _ _ h; exact h) (Or.inl ⟨by rfl, ?_⟩) ?_
  rotate_left 1
  · intro w' _
    go_simp
    all_goals with_reducible rfl
  simp only [Act.put, List.getElem_toArray, List.getElem_cons_zero, List.getElem_cons_succ, List.setIfInBounds_toArray, List.set_cons_zero, List.set_cons_succ]
  refine wpAnyK_pure (i := 1) (oi := _) (v := ?_) (by rfl) (by kernel_rfl) (by intro _ _ _ h; exact h) (Or.inl ⟨by rfl, ?_⟩) ?_
  rotate_left 1
  · intro w' _
    go_simp
    all_goals with_reducible rfl
  simp only [Act.put, List.getElem_toArray, List.getElem_cons_zero, List.getElem_cons_succ, List.setIfInBounds_toArray, List.set_cons_zero, List.set_cons_succ]
  refine wpAnyK_pure (i := 2) (oi := _) (v := ?_) (by rfl) (by kernel_rfl) (by intro _ _ _ h; exact h) (Or.inl ⟨by rfl, ?_⟩) ?_
  rotate_left 1
  · intro w' _
    go_simp
    all_goals with_reducible rfl
  simp only [Act.put, List.getElem_toArray, List.getElem_cons_zero, List.getElem_cons_succ, List.setIfInBounds_toArray, List.set_cons_zero, List.set_cons_succ]
  refine wpAnyK_take (i := 3) (oi := _) (v := ?_) (by rfl) (by kernel_rfl) (by intro _ _ _ h; exact h) HSD.out (Or.inl ⟨by rfl, ?_⟩) ?_
  rotate_left 1
  · intro w' hl
    have l0 := hl.s0
    have l1 := hl.s1
    have l2 := hl.t1
    have l3 := hl.t2
    have l4 := hl.t3
    have l5 := hl.t4
    have l6 := hl.t5
    clear hl
    go_simp
    all_goals with_reducible rfl
  simp only [Act.put, List.getElem_toArray, List.getElem_cons_zero, List.getElem_cons_succ, List.setIfInBounds_toArray, List.set_cons_zero, List.set_cons_succ]
  refine wpAnyK_pure (i := 4) (oi := _) (v := ?_) (by rfl) (by kernel_rfl) (by intro _ _ _ h; exact h) (Or.inl ⟨by rfl, ?_⟩) ?_
  rotate_left 1
  · intro w' _
    go_simp
    all_goals with_reducible rfl
  simp only [Act.put, List.getElem_toArray, List.getElem_cons_zero, List.getElem_cons_succ, List.setIfInBounds_toArray, List.set_cons_zero, List.set_cons_succ]
  refine wpAnyK_take (i := 5) (oi := _) (v := ?_) (by rfl) (by kernel_rfl) (by intro _ _ _ h; exact h) HSD.out (Or.inl ⟨by rfl, ?_⟩) ?_
  rotate_left 1
  · intro w' hl
    have l0 := hl.s0
    have l1 := hl.s1
    have l2 := hl.t1
    have l3 := hl.t2
    have l4 := hl.t3
    have l5 := hl.t4
    have l6 := hl.t5
    clear hl
    go_simp
    all_goals with_reducible rfl
  simp only [Act.put, List.getElem_toArray, List.getElem_cons_zero, List.getElem_cons_succ, List.setIfInBounds_toArray, List.set_cons_zero, List.set_cons_succ]
  refine wpAnyK_all (rs := [6]) (by kernel_rfl) (by simp) ?_
  intro ix hix
  simp only [List.mem_cons, List.not_mem_nil, or_false] at hix
  subst hix
  refine wpK_op (o := _) (by rfl) (fun K hK => ?_)
  go_simp
  go_at_call 88
  refine (HC.out _ (HB2.out.trans ((below_drew _).mono HB2.out.size)) HS2.out).mono ?_
  rintro e w3 ⟨z, rfl, hsz, hkp, hx⟩
  have HS3 : Hid (SP b a B E rf ac n was A m c w3) := Lib.hid (by
    have hS := HSP.out
    have e1 : w3.heap[b]? = W2.heap[b]? := hkp b (.inl rfl) HLB.out
    have e2 : w3.heap[a]? = W2.heap[a]? := hkp a (.inr (by have := HA.out; omega)) HLA.out
    exact ⟨(World.cell?_of_block (a := ⟨b, 0, none⟩) e1).trans hS.s0, (World.cell?_of_block (a := ⟨b, 1, none⟩) e1).trans hS.s1, (World.cell?_of_block (a := ⟨a, 1, none⟩) e2).trans hS.t1, (World.cell?_of_block (a := ⟨a, 2, none⟩) e2).trans hS.t2, (World.cell?_of_block (a := ⟨a, 3, none⟩) e2).trans hS.t3, (World.cell?_of_block (a := ⟨a, 4, none⟩) e2).trans hS.t4, (World.cell?_of_block (a := ⟨a, 5, none⟩) e2).trans hS.t5⟩)
  have HH3 : Hid (w3.heap[q]? = some (.cells #[.int .i64 0, .int .i64 0, .bool false, .slice none 0 0] 80 (0, 0))) := Lib.hid ((hkp q (by first | exact .inr (by have := HQ.out; omega) | (have := HQ.out; omega)) (by have := HQ.out; have := HS2.out; first | omega | (show q < W2.heap.size; omega))).trans HH.out)
  have HXX := Lib.hid hx
  have HSZ : Hid (w.heap.size + 2 ≤ w3.heap.size) := Lib.hid (by have := HS2.out; first | omega | (have h9 : W2.heap.size ≤ w3.heap.size := hsz; omega))
  refine hK _ _ (fun _ _ => HS3.out) ?_
  clear hK K
  try simp only [Act.put, List.getElem_toArray, List.getElem_cons_zero, List.getElem_cons_succ, List.setIfInBounds_toArray, List.set_cons_zero, List.set_cons_succ]
  clear hsz hkp hx
  refine wpAnyK_pure (i := 7) (oi := _) (v := ?_) (by rfl) (by kernel_rfl) (by intro _ _ _ h; exact h) (Or.inl ⟨by rfl, ?_⟩) ?_
  rotate_left 1
  · intro w' _
    go_simp
    all_goals with_reducible rfl
  simp only [Act.put, List.getElem_toArray, List.getElem_cons_zero, List.getElem_cons_succ, List.setIfInBounds_toArray, List.set_cons_zero, List.set_cons_succ]
  have q0 : w3.cell? ⟨q, 0, none⟩ = some (.int .i64 0) := (cell_of HH3.out 0).trans rfl
  have q1 : w3.cell? ⟨q, 1, none⟩ = some (.int .i64 0) := (cell_of HH3.out 1).trans rfl
  have q2 : w3.cell? ⟨q, 2, none⟩ = some (.bool false) := (cell_of HH3.out 2).trans rfl
  have q3 : w3.cell? ⟨q, 3, none⟩ = some (.slice none 0 0) := (cell_of HH3.out 3).trans rfl
  have f0 := frozen_of HH3.out 0
  have f1 := frozen_of HH3.out 1
  have f2 := frozen_of HH3.out 2
  have f3 := frozen_of HH3.out 3
  refine wpAnyK_all (rs := [8]) (by kernel_rfl) (by simp) ?_
  intro ix hix
  simp only [List.mem_cons, List.not_mem_nil, or_false] at hix
  subst hix
  refine wpK_op (o := _) (by rfl) (fun K hK => ?_)
  go_simp
  refine hK _ _ (fun h => absurd h (by omega)) ?_
  clear hK K
  try simp only [Act.put, List.getElem_toArray, List.getElem_cons_zero, List.getElem_cons_succ, List.setIfInBounds_toArray, List.set_cons_zero, List.set_cons_succ]
  refine wpAnyK_done (by kernel_rfl) ?_ _
  have h4 := (heap_setCell_same _ _ 1 _ _ (.int .i64 z) (HH3.out))
  have hal := ((Al.refl w.heap.size (w.heap.size + 2) w3).set (a := ⟨q, 1, none⟩) (by show w.heap.size ≤ q; have := HQ.out; omega) (by show q < w.heap.size + 2; have := HQ.out; omega) (.int .i64 z))
  try clear q0 q1 q2 q3 f0 f1 f2 f3
  generalize (w3.setCell ⟨q, 1, none⟩ (.int .i64 z)) = w4 at *
  have q0 : w4.cell? ⟨q, 0, none⟩ = some (.int .i64 0) := (cell_of h4 0).trans rfl
  have q1 : w4.cell? ⟨q, 1, none⟩ = some (.int .i64 z) := (cell_of h4 1).trans rfl
  have q2 : w4.cell? ⟨q, 2, none⟩ = some (.bool false) := (cell_of h4 2).trans rfl
  have q3 : w4.cell? ⟨q, 3, none⟩ = some (.slice none 0 0) := (cell_of h4 3).trans rfl
  have f0 := frozen_of h4 0
  have f1 := frozen_of h4 1
  have f2 := frozen_of h4 2
  have f3 := frozen_of h4 3
  have H4 := Lib.hid h4
  have HAL := Lib.hid hal
  clear h4 hal
  go_wp2
  have hh := set4 H4.out (.int .i64 0) (.int .i64 z) (.bool false) (.slice none 0 0)
  have hal := HAL.out.set4 (q := q) (by have := HQ.out; omega) (by have := HQ.out; omega) (.int .i64 0) (.int .i64 z) (.bool false) (.slice none 0 0)
  generalize ((((w4.setCell ⟨q, 0, none⟩ (.int .i64 0)).setCell ⟨q, 1, none⟩ (.int .i64 z)).setCell ⟨q, 2, none⟩ (.bool false)).setCell ⟨q, 3, none⟩ (.slice none 0 0)) = W5 at *
  have p0 : W5.cell? ⟨q, 0, none⟩ = some (.int .i64 0) := (cell_of hh 0).trans rfl
  have p1 : W5.cell? ⟨q, 1, none⟩ = some (.int .i64 z) := (cell_of hh 1).trans rfl
  have p2 : W5.cell? ⟨q, 2, none⟩ = some (.bool false) := (cell_of hh 2).trans rfl
  have p3 : W5.cell? ⟨q, 3, none⟩ = some (.slice none 0 0) := (cell_of hh 3).trans rfl
  exact bodyPost_ret (v := resV 0 z false none 0 0) (by simp [results, Try.results65, go_sem, p0, p1, p2, p3, resV]) rfl ⟨z, rfl, by have := hal.size; have := HSZ.out; omega, HX.out _ _ _ HXX.out hal⟩
set_option maxRecDepth 100000 in
set_option maxHeartbeats 1600000 in
/-- perform at the kind 11. -/
theorem perf11 {X : Bool → World → Prop} {b B E k : Nat} {root hold : Int} {w : World} (hbox : w.heap[b]? = some (.cells #[.pointer (some ⟨B, 0, none⟩), .pointer (some ⟨E, 0, none⟩), .int .i64 root, .int .i64 (k : Nat), .int .i64 hold] 135 (0, 0))) (cl rf ac n was : Int) (A : Option Addr) (m c : Nat)
    (hc : ∀ W, Below w.heap.size w W → W.heap.size = w.heap.size + 2 → Calls Try.prog 89 #[.pointer (some ⟨E, 0, none⟩), .int .i64 n] W fun e w' => ∃ ok, e = .returned (.bool ok) ∧ W.heap.size ≤ w'.heap.size ∧ (∀ x, x = b ∨ w.heap.size ≤ x → x < W.heap.size → w'.heap[x]? = W.heap[x]?) ∧ X ok w')
    (hX : ∀ ok w' w'', X ok w' → Al w.heap.size (w.heap.size + 2) w' w'' → X ok w'') :
    Calls Try.prog 65 #[.pointer (some ⟨b, 0, none⟩), .int .i64 cl, accV 11 rf ac n was A m c] w fun e w' => ∃ ok, e = .returned (resV 0 0 ok none 0 0) ∧ w.heap.size + 2 ≤ w'.heap.size ∧ X ok w' := by
  obtain ⟨W1, hW1⟩ : ∃ W1 : World, W1 = w.alloc (.cells #[.int .i64 11, .int .i64 rf, .int .i64 ac, .int .i64 n, .int .u64 was, .slice A m c] 74) := ⟨_, rfl⟩
  have hb1 : Below w.heap.size w W1 := by rw [hW1]; exact below_alloc w _
  obtain ⟨a, ha⟩ : ∃ a, a = w.heap.size := ⟨_, rfl⟩
  have hh1 : W1.heap[a]? = some (.cells #[.int .i64 11, .int .i64 rf, .int .i64 ac, .int .i64 n, .int .u64 was, .slice A m c] 74 (0, 0)) := by rw [hW1, ha]; exact heap_alloc_new w _
  obtain ⟨W2, hW2⟩ : ∃ W2 : World, W2 = W1.alloc (.cells #[.int .i64 0, .int .i64 0, .bool false, .slice none 0 0] 80) := ⟨_, rfl⟩
  obtain ⟨q, hq⟩ : ∃ q, q = w.heap.size + 1 := ⟨_, rfl⟩
  have hqq : q = W1.heap.size := by rw [hW1, hq]; simp
  have hs2 : W2.heap.size = w.heap.size + 2 := by rw [hW2]; simp; omega
  have hh : W2.heap[q]? = some (.cells #[.int .i64 0, .int .i64 0, .bool false, .slice none 0 0] 80 (0, 0)) := by rw [hW2, hqq]; exact heap_alloc_new W1 _
  have hb2 : Below w.heap.size w W2 := by rw [hW2]; exact hb1.trans ((below_alloc W1 _).mono hb1.size)
  have hh2 : W2.heap[a]? = some (.cells #[.int .i64 11, .int .i64 rf, .int .i64 ac, .int .i64 n, .int .u64 was, .slice A m c] 74 (0, 0)) := by rw [hW2]; exact ((below_alloc W1 _).block _ (lt_of_heap hh1)).trans hh1
  have hbx : W2.heap[b]? = some (.cells #[.pointer (some ⟨B, 0, none⟩), .pointer (some ⟨E, 0, none⟩), .int .i64 root, .int .i64 (k : Nat), .int .i64 hold] 135 (0, 0)) := (hb2.block b (lt_of_heap hbox)).trans hbox
  have k0 : W2.cell? ⟨a, 0, none⟩ = some (.int .i64 11) := (cell_of hh2 0).trans rfl
  have HSP : Hid (SP b a B E rf ac n was A m c W2) := Lib.hid ⟨(cell_of hbx 0).trans rfl, (cell_of hbx 1).trans rfl, (cell_of hh2 1).trans rfl, (cell_of hh2 2).trans rfl, (cell_of hh2 3).trans rfl, (cell_of hh2 4).trans rfl, (cell_of hh2 5).trans rfl⟩
  have HSD : Hid (SP b a B E rf ac n was A m c W2.drew) := Lib.hid ⟨HSP.out.s0, HSP.out.s1, HSP.out.t1, HSP.out.t2, HSP.out.t3, HSP.out.t4, HSP.out.t5⟩
  have HX := Lib.hid hX
  have HC : Hid (∀ W, Below w.heap.size w W → W.heap.size = w.heap.size + 2 → Calls Try.prog 89 #[.pointer (some ⟨E, 0, none⟩), .int .i64 n] W fun e w' => ∃ ok, e = .returned (.bool ok) ∧ W.heap.size ≤ w'.heap.size ∧ (∀ x, x = b ∨ w.heap.size ≤ x → x < W.heap.size → w'.heap[x]? = W.heap[x]?) ∧ X ok w') := Lib.hid hc
  have HW1 := Lib.hid hW1
  have HW2 := Lib.hid hW2
  have HQ := Lib.hid hq
  have HA := Lib.hid ha
  have HB2 := Lib.hid hb2
  have HS2 := Lib.hid hs2
  have HH := Lib.hid hh
  have HLB : Hid (b < W2.heap.size) := Lib.hid (lt_of_heap hbx)
  have HLA : Hid (a < W2.heap.size) := Lib.hid (lt_of_heap hh2)
  clear hbox hc hX hb1 hb2 hh hh1 hh2 hbx hW1 hW2 hq hqq hs2
  unfold accV
  go_enter Try.func65, Try.ntmps65
  go_upto_region 1 with (fail)
  rw [← HW1.out, ← HW2.out, ← HQ.out, ← HA.out]
  clear ha
  go_upto_region 24 with (fail)
  refine wp_region_K (SP b a B E rf ac n was A m c) 7 (by kernel_rfl) ?_
  refine wpAnyK_pure (i := 0) (oi := _) (v := ?_) (by rfl) (by kernel_rfl) (by intro _ _ _ h; exact h) (Or.inl ⟨by rfl, ?_⟩) ?_
  rotate_left 1
  · intro w' _
    go_simp
    all_goals with_reducible rfl
  simp only [Act.put, List.getElem_toArray, List.getElem_cons_zero, List.getElem_cons_succ, List.setIfInBounds_toArray, List.set_cons_zero, List.set_cons_succ]
  refine wpAnyK_pure (i := 1) (oi := _) (v := ?_) (by rfl) (by kernel_rfl) (by intro _ _ _ h; exact h) (Or.inl ⟨by rfl, ?_⟩) ?_
  rotate_left 1
  · intro w' _
    go_simp
    all_goals with_reducible rfl
  simp only [Act.put, List.getElem_toArray, List.getElem_cons_zero, List.getElem_cons_succ, List.setIfInBounds_toArray, List.set_cons_zero, List.set_cons_succ]
  refine wpAnyK_pure (i := 2) (oi := _) (v := ?_) (by rfl) (by kernel_rfl) (by intro _ _ _ h; exact h) (Or.inl ⟨by rfl, ?_⟩) ?_
  rotate_left 1
  · intro w' _
    go_simp
    all_goals with_reducible rfl
  simp only [Act.put, List.getElem_toArray, List.getElem_cons_zero, List.getElem_cons_succ, List.setIfInBounds_toArray, List.set_cons_zero, List.set_cons_succ]
  refine wpAnyK_take (i := 3) (oi := _) (v := ?_) (by rfl) (by kernel_rfl) (by intro _ _ _ h; exact h) HSD.out (Or.inl ⟨by rfl, ?_⟩) ?_
  rotate_left 1
  · intro w' hl
    have l0 := hl.s0
    have l1 := hl.s1
    have l2 := hl.t1
    have l3 := hl.t2
    have l4 := hl.t3
    have l5 := hl.t4
    have l6 := hl.t5
    clear hl
    go_simp
    all_goals with_reducible rfl
  simp only [Act.put, List.getElem_toArray, List.getElem_cons_zero, List.getElem_cons_succ, List.setIfInBounds_toArray, List.set_cons_zero, List.set_cons_succ]
  refine wpAnyK_pure (i := 4) (oi := _) (v := ?_) (by rfl) (by kernel_rfl) (by intro _ _ _ h; exact h) (Or.inl ⟨by rfl, ?_⟩) ?_
  rotate_left 1
  · intro w' _
    go_simp
    all_goals with_reducible rfl
  simp only [Act.put, List.getElem_toArray, List.getElem_cons_zero, List.getElem_cons_succ, List.setIfInBounds_toArray, List.set_cons_zero, List.set_cons_succ]
  refine wpAnyK_take (i := 5) (oi := _) (v := ?_) (by rfl) (by kernel_rfl) (by intro _ _ _ h; exact h) HSD.out (Or.inl ⟨by rfl, ?_⟩) ?_
  rotate_left 1
  · intro w' hl
    have l0 := hl.s0
    have l1 := hl.s1
    have l2 := hl.t1
    have l3 := hl.t2
    have l4 := hl.t3
    have l5 := hl.t4
    have l6 := hl.t5
    clear hl
    go_simp
    all_goals with_reducible rfl
  simp only [Act.put, List.getElem_toArray, List.getElem_cons_zero, List.getElem_cons_succ, List.setIfInBounds_toArray, List.set_cons_zero, List.set_cons_succ]
  refine wpAnyK_all (rs := [6]) (by kernel_rfl) (by simp) ?_
  intro ix hix
  simp only [List.mem_cons, List.not_mem_nil, or_false] at hix
  subst hix
  refine wpK_op (o := _) (by rfl) (fun K hK => ?_)
  go_simp
  go_at_call 89
  refine (HC.out _ (HB2.out.trans ((below_drew _).mono HB2.out.size)) HS2.out).mono ?_
  rintro e w3 ⟨ok, rfl, hsz, hkp, hx⟩
  have HS3 : Hid (SP b a B E rf ac n was A m c w3) := Lib.hid (by
    have hS := HSP.out
    have e1 : w3.heap[b]? = W2.heap[b]? := hkp b (.inl rfl) HLB.out
    have e2 : w3.heap[a]? = W2.heap[a]? := hkp a (.inr (by have := HA.out; omega)) HLA.out
    exact ⟨(World.cell?_of_block (a := ⟨b, 0, none⟩) e1).trans hS.s0, (World.cell?_of_block (a := ⟨b, 1, none⟩) e1).trans hS.s1, (World.cell?_of_block (a := ⟨a, 1, none⟩) e2).trans hS.t1, (World.cell?_of_block (a := ⟨a, 2, none⟩) e2).trans hS.t2, (World.cell?_of_block (a := ⟨a, 3, none⟩) e2).trans hS.t3, (World.cell?_of_block (a := ⟨a, 4, none⟩) e2).trans hS.t4, (World.cell?_of_block (a := ⟨a, 5, none⟩) e2).trans hS.t5⟩)
  have HH3 : Hid (w3.heap[q]? = some (.cells #[.int .i64 0, .int .i64 0, .bool false, .slice none 0 0] 80 (0, 0))) := Lib.hid ((hkp q (by first | exact .inr (by have := HQ.out; omega) | (have := HQ.out; omega)) (by have := HQ.out; have := HS2.out; first | omega | (show q < W2.heap.size; omega))).trans HH.out)
  have HXX := Lib.hid hx
  have HSZ : Hid (w.heap.size + 2 ≤ w3.heap.size) := Lib.hid (by have := HS2.out; first | omega | (have h9 : W2.heap.size ≤ w3.heap.size := hsz; omega))
  refine hK _ _ (fun _ _ => HS3.out) ?_
  clear hK K
  try simp only [Act.put, List.getElem_toArray, List.getElem_cons_zero, List.getElem_cons_succ, List.setIfInBounds_toArray, List.set_cons_zero, List.set_cons_succ]
  clear hsz hkp hx
  refine wpAnyK_pure (i := 7) (oi := _) (v := ?_) (by rfl) (by kernel_rfl) (by intro _ _ _ h; exact h) (Or.inl ⟨by rfl, ?_⟩) ?_
  rotate_left 1
  · intro w' _
    go_simp
    all_goals with_reducible rfl
  simp only [Act.put, List.getElem_toArray, List.getElem_cons_zero, List.getElem_cons_succ, List.setIfInBounds_toArray, List.set_cons_zero, List.set_cons_succ]
  have q0 : w3.cell? ⟨q, 0, none⟩ = some (.int .i64 0) := (cell_of HH3.out 0).trans rfl
  have q1 : w3.cell? ⟨q, 1, none⟩ = some (.int .i64 0) := (cell_of HH3.out 1).trans rfl
  have q2 : w3.cell? ⟨q, 2, none⟩ = some (.bool false) := (cell_of HH3.out 2).trans rfl
  have q3 : w3.cell? ⟨q, 3, none⟩ = some (.slice none 0 0) := (cell_of HH3.out 3).trans rfl
  have f0 := frozen_of HH3.out 0
  have f1 := frozen_of HH3.out 1
  have f2 := frozen_of HH3.out 2
  have f3 := frozen_of HH3.out 3
  refine wpAnyK_all (rs := [8]) (by kernel_rfl) (by simp) ?_
  intro ix hix
  simp only [List.mem_cons, List.not_mem_nil, or_false] at hix
  subst hix
  refine wpK_op (o := _) (by rfl) (fun K hK => ?_)
  go_simp
  refine hK _ _ (fun h => absurd h (by omega)) ?_
  clear hK K
  try simp only [Act.put, List.getElem_toArray, List.getElem_cons_zero, List.getElem_cons_succ, List.setIfInBounds_toArray, List.set_cons_zero, List.set_cons_succ]
  refine wpAnyK_done (by kernel_rfl) ?_ _
  have h4 := (heap_setCell_same _ _ 2 _ _ (.bool ok) (HH3.out))
  have hal := ((Al.refl w.heap.size (w.heap.size + 2) w3).set (a := ⟨q, 2, none⟩) (by show w.heap.size ≤ q; have := HQ.out; omega) (by show q < w.heap.size + 2; have := HQ.out; omega) (.bool ok))
  try clear q0 q1 q2 q3 f0 f1 f2 f3
  generalize (w3.setCell ⟨q, 2, none⟩ (.bool ok)) = w4 at *
  have q0 : w4.cell? ⟨q, 0, none⟩ = some (.int .i64 0) := (cell_of h4 0).trans rfl
  have q1 : w4.cell? ⟨q, 1, none⟩ = some (.int .i64 0) := (cell_of h4 1).trans rfl
  have q2 : w4.cell? ⟨q, 2, none⟩ = some (.bool ok) := (cell_of h4 2).trans rfl
  have q3 : w4.cell? ⟨q, 3, none⟩ = some (.slice none 0 0) := (cell_of h4 3).trans rfl
  have f0 := frozen_of h4 0
  have f1 := frozen_of h4 1
  have f2 := frozen_of h4 2
  have f3 := frozen_of h4 3
  have H4 := Lib.hid h4
  have HAL := Lib.hid hal
  clear h4 hal
  go_wp2
  have hh := set4 H4.out (.int .i64 0) (.int .i64 0) (.bool ok) (.slice none 0 0)
  have hal := HAL.out.set4 (q := q) (by have := HQ.out; omega) (by have := HQ.out; omega) (.int .i64 0) (.int .i64 0) (.bool ok) (.slice none 0 0)
  generalize ((((w4.setCell ⟨q, 0, none⟩ (.int .i64 0)).setCell ⟨q, 1, none⟩ (.int .i64 0)).setCell ⟨q, 2, none⟩ (.bool ok)).setCell ⟨q, 3, none⟩ (.slice none 0 0)) = W5 at *
  have p0 : W5.cell? ⟨q, 0, none⟩ = some (.int .i64 0) := (cell_of hh 0).trans rfl
  have p1 : W5.cell? ⟨q, 1, none⟩ = some (.int .i64 0) := (cell_of hh 1).trans rfl
  have p2 : W5.cell? ⟨q, 2, none⟩ = some (.bool ok) := (cell_of hh 2).trans rfl
  have p3 : W5.cell? ⟨q, 3, none⟩ = some (.slice none 0 0) := (cell_of hh 3).trans rfl
  exact bodyPost_ret (v := resV 0 0 ok none 0 0) (by simp [results, Try.results65, go_sem, p0, p1, p2, p3, resV]) rfl ⟨ok, rfl, by have := hal.size; have := HSZ.out; omega, HX.out _ _ _ HXX.out hal⟩
set_option maxRecDepth 100000 in
set_option maxHeartbeats 1600000 in
/-- perform at the kind 12. -/
theorem perf12 {X : Int → Bool → Int → World → Prop} {b B E k : Nat} {root hold : Int} {w : World} (hbox : w.heap[b]? = some (.cells #[.pointer (some ⟨B, 0, none⟩), .pointer (some ⟨E, 0, none⟩), .int .i64 root, .int .i64 (k : Nat), .int .i64 hold] 135 (0, 0))) (cl rf ac n was : Int) (A : Option Addr) (m c : Nat)
    (hc : ∀ W, Below w.heap.size w W → W.heap.size = w.heap.size + 2 → Calls Try.prog 90 #[.pointer (some ⟨b, 0, none⟩), .int .i64 cl] W fun e w' => ∃ z ok er, e = .returned (.tuple #[.int .i64 z, .bool ok, .int .i64 er]) ∧ W.heap.size ≤ w'.heap.size ∧ (∀ x, w.heap.size ≤ x → x < W.heap.size → w'.heap[x]? = W.heap[x]?) ∧ X z ok er w')
    (hX : ∀ z ok er w' w'', X z ok er w' → Al w.heap.size (w.heap.size + 2) w' w'' → X z ok er w'') :
    Calls Try.prog 65 #[.pointer (some ⟨b, 0, none⟩), .int .i64 cl, accV 12 rf ac n was A m c] w fun e w' => ∃ z ok er, e = .returned (resV er z ok none 0 0) ∧ w.heap.size + 2 ≤ w'.heap.size ∧ X z ok er w' := by
  obtain ⟨W1, hW1⟩ : ∃ W1 : World, W1 = w.alloc (.cells #[.int .i64 12, .int .i64 rf, .int .i64 ac, .int .i64 n, .int .u64 was, .slice A m c] 74) := ⟨_, rfl⟩
  have hb1 : Below w.heap.size w W1 := by rw [hW1]; exact below_alloc w _
  obtain ⟨a, ha⟩ : ∃ a, a = w.heap.size := ⟨_, rfl⟩
  have hh1 : W1.heap[a]? = some (.cells #[.int .i64 12, .int .i64 rf, .int .i64 ac, .int .i64 n, .int .u64 was, .slice A m c] 74 (0, 0)) := by rw [hW1, ha]; exact heap_alloc_new w _
  obtain ⟨W2, hW2⟩ : ∃ W2 : World, W2 = W1.alloc (.cells #[.int .i64 0, .int .i64 0, .bool false, .slice none 0 0] 80) := ⟨_, rfl⟩
  obtain ⟨q, hq⟩ : ∃ q, q = w.heap.size + 1 := ⟨_, rfl⟩
  have hqq : q = W1.heap.size := by rw [hW1, hq]; simp
  have hs2 : W2.heap.size = w.heap.size + 2 := by rw [hW2]; simp; omega
  have hh : W2.heap[q]? = some (.cells #[.int .i64 0, .int .i64 0, .bool false, .slice none 0 0] 80 (0, 0)) := by rw [hW2, hqq]; exact heap_alloc_new W1 _
  have hb2 : Below w.heap.size w W2 := by rw [hW2]; exact hb1.trans ((below_alloc W1 _).mono hb1.size)
  have hh2 : W2.heap[a]? = some (.cells #[.int .i64 12, .int .i64 rf, .int .i64 ac, .int .i64 n, .int .u64 was, .slice A m c] 74 (0, 0)) := by rw [hW2]; exact ((below_alloc W1 _).block _ (lt_of_heap hh1)).trans hh1
  have hbx : W2.heap[b]? = some (.cells #[.pointer (some ⟨B, 0, none⟩), .pointer (some ⟨E, 0, none⟩), .int .i64 root, .int .i64 (k : Nat), .int .i64 hold] 135 (0, 0)) := (hb2.block b (lt_of_heap hbox)).trans hbox
  have k0 : W2.cell? ⟨a, 0, none⟩ = some (.int .i64 12) := (cell_of hh2 0).trans rfl
  have HSP : Hid (SP b a B E rf ac n was A m c W2) := Lib.hid ⟨(cell_of hbx 0).trans rfl, (cell_of hbx 1).trans rfl, (cell_of hh2 1).trans rfl, (cell_of hh2 2).trans rfl, (cell_of hh2 3).trans rfl, (cell_of hh2 4).trans rfl, (cell_of hh2 5).trans rfl⟩
  have HSD : Hid (SP b a B E rf ac n was A m c W2.drew) := Lib.hid ⟨HSP.out.s0, HSP.out.s1, HSP.out.t1, HSP.out.t2, HSP.out.t3, HSP.out.t4, HSP.out.t5⟩
  have HX := Lib.hid hX
  have HC : Hid (∀ W, Below w.heap.size w W → W.heap.size = w.heap.size + 2 → Calls Try.prog 90 #[.pointer (some ⟨b, 0, none⟩), .int .i64 cl] W fun e w' => ∃ z ok er, e = .returned (.tuple #[.int .i64 z, .bool ok, .int .i64 er]) ∧ W.heap.size ≤ w'.heap.size ∧ (∀ x, w.heap.size ≤ x → x < W.heap.size → w'.heap[x]? = W.heap[x]?) ∧ X z ok er w') := Lib.hid hc
  have HW1 := Lib.hid hW1
  have HW2 := Lib.hid hW2
  have HQ := Lib.hid hq
  have HA := Lib.hid ha
  have HB2 := Lib.hid hb2
  have HS2 := Lib.hid hs2
  have HH := Lib.hid hh
  have HLB : Hid (b < W2.heap.size) := Lib.hid (lt_of_heap hbx)
  have HLA : Hid (a < W2.heap.size) := Lib.hid (lt_of_heap hh2)
  clear hbox hc hX hb1 hb2 hh hh1 hh2 hbx hW1 hW2 hq hqq hs2
  unfold accV
  go_enter Try.func65, Try.ntmps65
  go_upto_region 1 with (fail)
  rw [← HW1.out, ← HW2.out, ← HQ.out, ← HA.out]
  clear ha
  go_upto_region 26 with (fail)
  have l0 := HSP.out.s0
  have l1 := HSP.out.s1
  have l2 := HSP.out.t1
  have l3 := HSP.out.t2
  have l4 := HSP.out.t3
  go_upto_region 33 with (first
    | (go_at_call 90; refine (HC.out _ HB2.out HS2.out).mono ?_; rintro e w3 ⟨z, ok, er, rfl, hsz, hkp, hx⟩
       have HH3 : Hid (w3.heap[q]? = some (.cells #[.int .i64 0, .int .i64 0, .bool false, .slice none 0 0] 80 (0, 0))) := Lib.hid ((hkp q (by first | exact .inr (by have := HQ.out; omega) | (have := HQ.out; omega)) (by have := HQ.out; have := HS2.out; first | omega | (show q < W2.heap.size; omega))).trans HH.out)
       have HXX := Lib.hid hx
       have HSZ : Hid (w.heap.size + 2 ≤ w3.heap.size) := Lib.hid (by have := HS2.out; first | omega | (have h9 : W2.heap.size ≤ w3.heap.size := hsz; omega))
       have q0 : w3.cell? ⟨q, 0, none⟩ = some (.int .i64 0) := (cell_of HH3.out 0).trans rfl
       have q1 : w3.cell? ⟨q, 1, none⟩ = some (.int .i64 0) := (cell_of HH3.out 1).trans rfl
       have q2 : w3.cell? ⟨q, 2, none⟩ = some (.bool false) := (cell_of HH3.out 2).trans rfl
       have q3 : w3.cell? ⟨q, 3, none⟩ = some (.slice none 0 0) := (cell_of HH3.out 3).trans rfl
       have f0 := frozen_of HH3.out 0
       have f1 := frozen_of HH3.out 1
       have f2 := frozen_of HH3.out 2
       have f3 := frozen_of HH3.out 3
       clear hsz hkp hx k0 l0 l1 l2 l3 l4)
    | fail)
  have h4 := (heap_setCell_same _ _ 0 _ _ (.int .i64 er) ((heap_setCell_same _ _ 2 _ _ (.bool ok) ((heap_setCell_same _ _ 1 _ _ (.int .i64 z) (HH3.out))))))
  have hal := ((((((Al.refl w.heap.size (w.heap.size + 2) w3).set (a := ⟨q, 1, none⟩) (by show w.heap.size ≤ q; have := HQ.out; omega) (by show q < w.heap.size + 2; have := HQ.out; omega) (.int .i64 z))).set (a := ⟨q, 2, none⟩) (by show w.heap.size ≤ q; have := HQ.out; omega) (by show q < w.heap.size + 2; have := HQ.out; omega) (.bool ok))).set (a := ⟨q, 0, none⟩) (by show w.heap.size ≤ q; have := HQ.out; omega) (by show q < w.heap.size + 2; have := HQ.out; omega) (.int .i64 er))
  try clear q0 q1 q2 q3 f0 f1 f2 f3
  generalize (((w3.setCell ⟨q, 1, none⟩ (.int .i64 z)).setCell ⟨q, 2, none⟩ (.bool ok)).setCell ⟨q, 0, none⟩ (.int .i64 er)) = w4 at *
  have q0 : w4.cell? ⟨q, 0, none⟩ = some (.int .i64 er) := (cell_of h4 0).trans rfl
  have q1 : w4.cell? ⟨q, 1, none⟩ = some (.int .i64 z) := (cell_of h4 1).trans rfl
  have q2 : w4.cell? ⟨q, 2, none⟩ = some (.bool ok) := (cell_of h4 2).trans rfl
  have q3 : w4.cell? ⟨q, 3, none⟩ = some (.slice none 0 0) := (cell_of h4 3).trans rfl
  have f0 := frozen_of h4 0
  have f1 := frozen_of h4 1
  have f2 := frozen_of h4 2
  have f3 := frozen_of h4 3
  have H4 := Lib.hid h4
  have HAL := Lib.hid hal
  clear h4 hal
  go_wp2
  have hh := set4 H4.out (.int .i64 er) (.int .i64 z) (.bool ok) (.slice none 0 0)
  have hal := HAL.out.set4 (q := q) (by have := HQ.out; omega) (by have := HQ.out; omega) (.int .i64 er) (.int .i64 z) (.bool ok) (.slice none 0 0)
  generalize ((((w4.setCell ⟨q, 0, none⟩ (.int .i64 er)).setCell ⟨q, 1, none⟩ (.int .i64 z)).setCell ⟨q, 2, none⟩ (.bool ok)).setCell ⟨q, 3, none⟩ (.slice none 0 0)) = W5 at *
  have p0 : W5.cell? ⟨q, 0, none⟩ = some (.int .i64 er) := (cell_of hh 0).trans rfl
  have p1 : W5.cell? ⟨q, 1, none⟩ = some (.int .i64 z) := (cell_of hh 1).trans rfl
  have p2 : W5.cell? ⟨q, 2, none⟩ = some (.bool ok) := (cell_of hh 2).trans rfl
  have p3 : W5.cell? ⟨q, 3, none⟩ = some (.slice none 0 0) := (cell_of hh 3).trans rfl
  exact bodyPost_ret (v := resV er z ok none 0 0) (by simp [results, Try.results65, go_sem, p0, p1, p2, p3, resV]) rfl ⟨z, ok, er, rfl, by have := hal.size; have := HSZ.out; omega, HX.out _ _ _ _ _ HXX.out hal⟩
set_option maxRecDepth 100000 in
set_option maxHeartbeats 1600000 in
/-- perform at the kind 14. -/
theorem perf14 {X : Bool → World → Prop} {b B E k : Nat} {root hold : Int} {w : World} (hbox : w.heap[b]? = some (.cells #[.pointer (some ⟨B, 0, none⟩), .pointer (some ⟨E, 0, none⟩), .int .i64 root, .int .i64 (k : Nat), .int .i64 hold] 135 (0, 0))) (cl rf ac n was : Int) (A : Option Addr) (m c : Nat)
    (hc : ∀ W, Below w.heap.size w W → W.heap.size = w.heap.size + 2 → Calls Try.prog 91 #[.pointer (some ⟨b, 0, none⟩), .int .i64 (-1), .int .i64 cl] W fun e w' => ∃ ok, e = .returned (.bool ok) ∧ W.heap.size ≤ w'.heap.size ∧ (∀ x, w.heap.size ≤ x → x < W.heap.size → w'.heap[x]? = W.heap[x]?) ∧ X ok w')
    (hX : ∀ ok w' w'', X ok w' → Al w.heap.size (w.heap.size + 2) w' w'' → X ok w'') :
    Calls Try.prog 65 #[.pointer (some ⟨b, 0, none⟩), .int .i64 cl, accV 14 rf ac n was A m c] w fun e w' => ∃ ok, e = .returned (resV 0 0 ok none 0 0) ∧ w.heap.size + 2 ≤ w'.heap.size ∧ X ok w' := by
  obtain ⟨W1, hW1⟩ : ∃ W1 : World, W1 = w.alloc (.cells #[.int .i64 14, .int .i64 rf, .int .i64 ac, .int .i64 n, .int .u64 was, .slice A m c] 74) := ⟨_, rfl⟩
  have hb1 : Below w.heap.size w W1 := by rw [hW1]; exact below_alloc w _
  obtain ⟨a, ha⟩ : ∃ a, a = w.heap.size := ⟨_, rfl⟩
  have hh1 : W1.heap[a]? = some (.cells #[.int .i64 14, .int .i64 rf, .int .i64 ac, .int .i64 n, .int .u64 was, .slice A m c] 74 (0, 0)) := by rw [hW1, ha]; exact heap_alloc_new w _
  obtain ⟨W2, hW2⟩ : ∃ W2 : World, W2 = W1.alloc (.cells #[.int .i64 0, .int .i64 0, .bool false, .slice none 0 0] 80) := ⟨_, rfl⟩
  obtain ⟨q, hq⟩ : ∃ q, q = w.heap.size + 1 := ⟨_, rfl⟩
  have hqq : q = W1.heap.size := by rw [hW1, hq]; simp
  have hs2 : W2.heap.size = w.heap.size + 2 := by rw [hW2]; simp; omega
  have hh : W2.heap[q]? = some (.cells #[.int .i64 0, .int .i64 0, .bool false, .slice none 0 0] 80 (0, 0)) := by rw [hW2, hqq]; exact heap_alloc_new W1 _
  have hb2 : Below w.heap.size w W2 := by rw [hW2]; exact hb1.trans ((below_alloc W1 _).mono hb1.size)
  have hh2 : W2.heap[a]? = some (.cells #[.int .i64 14, .int .i64 rf, .int .i64 ac, .int .i64 n, .int .u64 was, .slice A m c] 74 (0, 0)) := by rw [hW2]; exact ((below_alloc W1 _).block _ (lt_of_heap hh1)).trans hh1
  have hbx : W2.heap[b]? = some (.cells #[.pointer (some ⟨B, 0, none⟩), .pointer (some ⟨E, 0, none⟩), .int .i64 root, .int .i64 (k : Nat), .int .i64 hold] 135 (0, 0)) := (hb2.block b (lt_of_heap hbox)).trans hbox
  have k0 : W2.cell? ⟨a, 0, none⟩ = some (.int .i64 14) := (cell_of hh2 0).trans rfl
  have HSP : Hid (SP b a B E rf ac n was A m c W2) := Lib.hid ⟨(cell_of hbx 0).trans rfl, (cell_of hbx 1).trans rfl, (cell_of hh2 1).trans rfl, (cell_of hh2 2).trans rfl, (cell_of hh2 3).trans rfl, (cell_of hh2 4).trans rfl, (cell_of hh2 5).trans rfl⟩
  have HSD : Hid (SP b a B E rf ac n was A m c W2.drew) := Lib.hid ⟨HSP.out.s0, HSP.out.s1, HSP.out.t1, HSP.out.t2, HSP.out.t3, HSP.out.t4, HSP.out.t5⟩
  have HX := Lib.hid hX
  have HC : Hid (∀ W, Below w.heap.size w W → W.heap.size = w.heap.size + 2 → Calls Try.prog 91 #[.pointer (some ⟨b, 0, none⟩), .int .i64 (-1), .int .i64 cl] W fun e w' => ∃ ok, e = .returned (.bool ok) ∧ W.heap.size ≤ w'.heap.size ∧ (∀ x, w.heap.size ≤ x → x < W.heap.size → w'.heap[x]? = W.heap[x]?) ∧ X ok w') := Lib.hid hc
  have HW1 := Lib.hid hW1
  have HW2 := Lib.hid hW2
  have HQ := Lib.hid hq
  have HA := Lib.hid ha
  have HB2 := Lib.hid hb2
  have HS2 := Lib.hid hs2
  have HH := Lib.hid hh
  have HLB : Hid (b < W2.heap.size) := Lib.hid (lt_of_heap hbx)
  have HLA : Hid (a < W2.heap.size) := Lib.hid (lt_of_heap hh2)
  clear hbox hc hX hb1 hb2 hh hh1 hh2 hbx hW1 hW2 hq hqq hs2
  unfold accV
  go_enter Try.func65, Try.ntmps65
  go_upto_region 1 with (fail)
  rw [← HW1.out, ← HW2.out, ← HQ.out, ← HA.out]
  clear ha
  go_upto_region 30 with (fail)
  have l0 := HSP.out.s0
  have l1 := HSP.out.s1
  have l2 := HSP.out.t1
  have l3 := HSP.out.t2
  have l4 := HSP.out.t3
  go_upto_region 33 with (first
    | (go_at_call 91; refine (HC.out _ HB2.out HS2.out).mono ?_; rintro e w3 ⟨ok, rfl, hsz, hkp, hx⟩
       have HH3 : Hid (w3.heap[q]? = some (.cells #[.int .i64 0, .int .i64 0, .bool false, .slice none 0 0] 80 (0, 0))) := Lib.hid ((hkp q (by first | exact .inr (by have := HQ.out; omega) | (have := HQ.out; omega)) (by have := HQ.out; have := HS2.out; first | omega | (show q < W2.heap.size; omega))).trans HH.out)
       have HXX := Lib.hid hx
       have HSZ : Hid (w.heap.size + 2 ≤ w3.heap.size) := Lib.hid (by have := HS2.out; first | omega | (have h9 : W2.heap.size ≤ w3.heap.size := hsz; omega))
       have q0 : w3.cell? ⟨q, 0, none⟩ = some (.int .i64 0) := (cell_of HH3.out 0).trans rfl
       have q1 : w3.cell? ⟨q, 1, none⟩ = some (.int .i64 0) := (cell_of HH3.out 1).trans rfl
       have q2 : w3.cell? ⟨q, 2, none⟩ = some (.bool false) := (cell_of HH3.out 2).trans rfl
       have q3 : w3.cell? ⟨q, 3, none⟩ = some (.slice none 0 0) := (cell_of HH3.out 3).trans rfl
       have f0 := frozen_of HH3.out 0
       have f1 := frozen_of HH3.out 1
       have f2 := frozen_of HH3.out 2
       have f3 := frozen_of HH3.out 3
       clear hsz hkp hx k0 l0 l1 l2 l3 l4)
    | fail)
  have h4 := (heap_setCell_same _ _ 2 _ _ (.bool ok) (HH3.out))
  have hal := ((Al.refl w.heap.size (w.heap.size + 2) w3).set (a := ⟨q, 2, none⟩) (by show w.heap.size ≤ q; have := HQ.out; omega) (by show q < w.heap.size + 2; have := HQ.out; omega) (.bool ok))
  try clear q0 q1 q2 q3 f0 f1 f2 f3
  generalize (w3.setCell ⟨q, 2, none⟩ (.bool ok)) = w4 at *
  have q0 : w4.cell? ⟨q, 0, none⟩ = some (.int .i64 0) := (cell_of h4 0).trans rfl
  have q1 : w4.cell? ⟨q, 1, none⟩ = some (.int .i64 0) := (cell_of h4 1).trans rfl
  have q2 : w4.cell? ⟨q, 2, none⟩ = some (.bool ok) := (cell_of h4 2).trans rfl
  have q3 : w4.cell? ⟨q, 3, none⟩ = some (.slice none 0 0) := (cell_of h4 3).trans rfl
  have f0 := frozen_of h4 0
  have f1 := frozen_of h4 1
  have f2 := frozen_of h4 2
  have f3 := frozen_of h4 3
  have H4 := Lib.hid h4
  have HAL := Lib.hid hal
  clear h4 hal
  go_wp2
  have hh := set4 H4.out (.int .i64 0) (.int .i64 0) (.bool ok) (.slice none 0 0)
  have hal := HAL.out.set4 (q := q) (by have := HQ.out; omega) (by have := HQ.out; omega) (.int .i64 0) (.int .i64 0) (.bool ok) (.slice none 0 0)
  generalize ((((w4.setCell ⟨q, 0, none⟩ (.int .i64 0)).setCell ⟨q, 1, none⟩ (.int .i64 0)).setCell ⟨q, 2, none⟩ (.bool ok)).setCell ⟨q, 3, none⟩ (.slice none 0 0)) = W5 at *
  have p0 : W5.cell? ⟨q, 0, none⟩ = some (.int .i64 0) := (cell_of hh 0).trans rfl
  have p1 : W5.cell? ⟨q, 1, none⟩ = some (.int .i64 0) := (cell_of hh 1).trans rfl
  have p2 : W5.cell? ⟨q, 2, none⟩ = some (.bool ok) := (cell_of hh 2).trans rfl
  have p3 : W5.cell? ⟨q, 3, none⟩ = some (.slice none 0 0) := (cell_of hh 3).trans rfl
  exact bodyPost_ret (v := resV 0 0 ok none 0 0) (by simp [results, Try.results65, go_sem, p0, p1, p2, p3, resV]) rfl ⟨ok, rfl, by have := hal.size; have := HSZ.out; omega, HX.out _ _ _ HXX.out hal⟩
set_option maxRecDepth 100000 in
set_option maxHeartbeats 1600000 in
/-- perform at the kind 15. -/
theorem perf15 {X : Bool → World → Prop} {b B E k : Nat} {root hold : Int} {w : World} (hbox : w.heap[b]? = some (.cells #[.pointer (some ⟨B, 0, none⟩), .pointer (some ⟨E, 0, none⟩), .int .i64 root, .int .i64 (k : Nat), .int .i64 hold] 135 (0, 0))) (cl rf ac n was : Int) (A : Option Addr) (m c : Nat)
    (hc : ∀ W, Below w.heap.size w W → W.heap.size = w.heap.size + 2 → Calls Try.prog 91 #[.pointer (some ⟨b, 0, none⟩), .int .i64 cl, .int .i64 (-1)] W fun e w' => ∃ ok, e = .returned (.bool ok) ∧ W.heap.size ≤ w'.heap.size ∧ (∀ x, w.heap.size ≤ x → x < W.heap.size → w'.heap[x]? = W.heap[x]?) ∧ X ok w')
    (hX : ∀ ok w' w'', X ok w' → Al w.heap.size (w.heap.size + 2) w' w'' → X ok w'') :
    Calls Try.prog 65 #[.pointer (some ⟨b, 0, none⟩), .int .i64 cl, accV 15 rf ac n was A m c] w fun e w' => ∃ ok, e = .returned (resV 0 0 ok none 0 0) ∧ w.heap.size + 2 ≤ w'.heap.size ∧ X ok w' := by
  obtain ⟨W1, hW1⟩ : ∃ W1 : World, W1 = w.alloc (.cells #[.int .i64 15, .int .i64 rf, .int .i64 ac, .int .i64 n, .int .u64 was, .slice A m c] 74) := ⟨_, rfl⟩
  have hb1 : Below w.heap.size w W1 := by rw [hW1]; exact below_alloc w _
  obtain ⟨a, ha⟩ : ∃ a, a = w.heap.size := ⟨_, rfl⟩
  have hh1 : W1.heap[a]? = some (.cells #[.int .i64 15, .int .i64 rf, .int .i64 ac, .int .i64 n, .int .u64 was, .slice A m c] 74 (0, 0)) := by rw [hW1, ha]; exact heap_alloc_new w _
  obtain ⟨W2, hW2⟩ : ∃ W2 : World, W2 = W1.alloc (.cells #[.int .i64 0, .int .i64 0, .bool false, .slice none 0 0] 80) := ⟨_, rfl⟩
  obtain ⟨q, hq⟩ : ∃ q, q = w.heap.size + 1 := ⟨_, rfl⟩
  have hqq : q = W1.heap.size := by rw [hW1, hq]; simp
  have hs2 : W2.heap.size = w.heap.size + 2 := by rw [hW2]; simp; omega
  have hh : W2.heap[q]? = some (.cells #[.int .i64 0, .int .i64 0, .bool false, .slice none 0 0] 80 (0, 0)) := by rw [hW2, hqq]; exact heap_alloc_new W1 _
  have hb2 : Below w.heap.size w W2 := by rw [hW2]; exact hb1.trans ((below_alloc W1 _).mono hb1.size)
  have hh2 : W2.heap[a]? = some (.cells #[.int .i64 15, .int .i64 rf, .int .i64 ac, .int .i64 n, .int .u64 was, .slice A m c] 74 (0, 0)) := by rw [hW2]; exact ((below_alloc W1 _).block _ (lt_of_heap hh1)).trans hh1
  have hbx : W2.heap[b]? = some (.cells #[.pointer (some ⟨B, 0, none⟩), .pointer (some ⟨E, 0, none⟩), .int .i64 root, .int .i64 (k : Nat), .int .i64 hold] 135 (0, 0)) := (hb2.block b (lt_of_heap hbox)).trans hbox
  have k0 : W2.cell? ⟨a, 0, none⟩ = some (.int .i64 15) := (cell_of hh2 0).trans rfl
  have HSP : Hid (SP b a B E rf ac n was A m c W2) := Lib.hid ⟨(cell_of hbx 0).trans rfl, (cell_of hbx 1).trans rfl, (cell_of hh2 1).trans rfl, (cell_of hh2 2).trans rfl, (cell_of hh2 3).trans rfl, (cell_of hh2 4).trans rfl, (cell_of hh2 5).trans rfl⟩
  have HSD : Hid (SP b a B E rf ac n was A m c W2.drew) := Lib.hid ⟨HSP.out.s0, HSP.out.s1, HSP.out.t1, HSP.out.t2, HSP.out.t3, HSP.out.t4, HSP.out.t5⟩
  have HX := Lib.hid hX
  have HC : Hid (∀ W, Below w.heap.size w W → W.heap.size = w.heap.size + 2 → Calls Try.prog 91 #[.pointer (some ⟨b, 0, none⟩), .int .i64 cl, .int .i64 (-1)] W fun e w' => ∃ ok, e = .returned (.bool ok) ∧ W.heap.size ≤ w'.heap.size ∧ (∀ x, w.heap.size ≤ x → x < W.heap.size → w'.heap[x]? = W.heap[x]?) ∧ X ok w') := Lib.hid hc
  have HW1 := Lib.hid hW1
  have HW2 := Lib.hid hW2
  have HQ := Lib.hid hq
  have HA := Lib.hid ha
  have HB2 := Lib.hid hb2
  have HS2 := Lib.hid hs2
  have HH := Lib.hid hh
  have HLB : Hid (b < W2.heap.size) := Lib.hid (lt_of_heap hbx)
  have HLA : Hid (a < W2.heap.size) := Lib.hid (lt_of_heap hh2)
  clear hbox hc hX hb1 hb2 hh hh1 hh2 hbx hW1 hW2 hq hqq hs2
  unfold accV
  go_enter Try.func65, Try.ntmps65
  go_upto_region 1 with (fail)
  rw [← HW1.out, ← HW2.out, ← HQ.out, ← HA.out]
  clear ha
  go_upto_region 32 with (fail)
  have l0 := HSP.out.s0
  have l1 := HSP.out.s1
  have l2 := HSP.out.t1
  have l3 := HSP.out.t2
  have l4 := HSP.out.t3
  go_upto_region 33 with (first
    | (go_at_call 91; refine (HC.out _ HB2.out HS2.out).mono ?_; rintro e w3 ⟨ok, rfl, hsz, hkp, hx⟩
       have HH3 : Hid (w3.heap[q]? = some (.cells #[.int .i64 0, .int .i64 0, .bool false, .slice none 0 0] 80 (0, 0))) := Lib.hid ((hkp q (by first | exact .inr (by have := HQ.out; omega) | (have := HQ.out; omega)) (by have := HQ.out; have := HS2.out; first | omega | (show q < W2.heap.size; omega))).trans HH.out)
       have HXX := Lib.hid hx
       have HSZ : Hid (w.heap.size + 2 ≤ w3.heap.size) := Lib.hid (by have := HS2.out; first | omega | (have h9 : W2.heap.size ≤ w3.heap.size := hsz; omega))
       have q0 : w3.cell? ⟨q, 0, none⟩ = some (.int .i64 0) := (cell_of HH3.out 0).trans rfl
       have q1 : w3.cell? ⟨q, 1, none⟩ = some (.int .i64 0) := (cell_of HH3.out 1).trans rfl
       have q2 : w3.cell? ⟨q, 2, none⟩ = some (.bool false) := (cell_of HH3.out 2).trans rfl
       have q3 : w3.cell? ⟨q, 3, none⟩ = some (.slice none 0 0) := (cell_of HH3.out 3).trans rfl
       have f0 := frozen_of HH3.out 0
       have f1 := frozen_of HH3.out 1
       have f2 := frozen_of HH3.out 2
       have f3 := frozen_of HH3.out 3
       clear hsz hkp hx k0 l0 l1 l2 l3 l4)
    | fail)
  have h4 := (heap_setCell_same _ _ 2 _ _ (.bool ok) (HH3.out))
  have hal := ((Al.refl w.heap.size (w.heap.size + 2) w3).set (a := ⟨q, 2, none⟩) (by show w.heap.size ≤ q; have := HQ.out; omega) (by show q < w.heap.size + 2; have := HQ.out; omega) (.bool ok))
  try clear q0 q1 q2 q3 f0 f1 f2 f3
  generalize (w3.setCell ⟨q, 2, none⟩ (.bool ok)) = w4 at *
  have q0 : w4.cell? ⟨q, 0, none⟩ = some (.int .i64 0) := (cell_of h4 0).trans rfl
  have q1 : w4.cell? ⟨q, 1, none⟩ = some (.int .i64 0) := (cell_of h4 1).trans rfl
  have q2 : w4.cell? ⟨q, 2, none⟩ = some (.bool ok) := (cell_of h4 2).trans rfl
  have q3 : w4.cell? ⟨q, 3, none⟩ = some (.slice none 0 0) := (cell_of h4 3).trans rfl
  have f0 := frozen_of h4 0
  have f1 := frozen_of h4 1
  have f2 := frozen_of h4 2
  have f3 := frozen_of h4 3
  have H4 := Lib.hid h4
  have HAL := Lib.hid hal
  clear h4 hal
  go_wp2
  have hh := set4 H4.out (.int .i64 0) (.int .i64 0) (.bool ok) (.slice none 0 0)
  have hal := HAL.out.set4 (q := q) (by have := HQ.out; omega) (by have := HQ.out; omega) (.int .i64 0) (.int .i64 0) (.bool ok) (.slice none 0 0)
  generalize ((((w4.setCell ⟨q, 0, none⟩ (.int .i64 0)).setCell ⟨q, 1, none⟩ (.int .i64 0)).setCell ⟨q, 2, none⟩ (.bool ok)).setCell ⟨q, 3, none⟩ (.slice none 0 0)) = W5 at *
  have p0 : W5.cell? ⟨q, 0, none⟩ = some (.int .i64 0) := (cell_of hh 0).trans rfl
  have p1 : W5.cell? ⟨q, 1, none⟩ = some (.int .i64 0) := (cell_of hh 1).trans rfl
  have p2 : W5.cell? ⟨q, 2, none⟩ = some (.bool ok) := (cell_of hh 2).trans rfl
  have p3 : W5.cell? ⟨q, 3, none⟩ = some (.slice none 0 0) := (cell_of hh 3).trans rfl
  exact bodyPost_ret (v := resV 0 0 ok none 0 0) (by simp [results, Try.results65, go_sem, p0, p1, p2, p3, resV]) rfl ⟨ok, rfl, by have := hal.size; have := HSZ.out; omega, HX.out _ _ _ HXX.out hal⟩
end Go.Proofs.Ytndmpdpmfieacaa

namespace Go.Proofs.Ytndmpdpmfieacaa
open Go.RowKit Go.WideShapes Go.ChangeShapes
set_option linter.all false
set_option maxHeartbeats 800000 in
/-- Do at the kind 1. -/
theorem do1 {X : Option Addr → Nat → Nat → Int → World → Prop} {b B E k : Nat} {root hold : Int} {w : World} (hbox : w.heap[b]? = some (.cells #[.pointer (some ⟨B, 0, none⟩), .pointer (some ⟨E, 0, none⟩), .int .i64 root, .int .i64 (k : Nat), .int .i64 hold] 135 (0, 0))) (j : Nat) (hj : j < k) (rf ac n was : Int) (A : Option Addr) (m c : Nat)
    (hc : ∀ W, Below w.heap.size w W → W.heap.size = w.heap.size + 4 → Calls Try.prog 16 #[.pointer (some ⟨B, 0, none⟩), .int .i64 rf] W fun e w' => ∃ A' m' c' er, e = .returned (.tuple #[.slice A' m' c', .int .i64 er]) ∧ W.heap.size ≤ w'.heap.size ∧ (∀ x, x = b ∨ w.heap.size ≤ x → x < W.heap.size → w'.heap[x]? = W.heap[x]?) ∧ X A' m' c' er w')
    (hX : ∀ A' m' c' er w' w'', X A' m' c' er w' → Al w.heap.size (w.heap.size + 4) w' w'' → X A' m' c' er w'') :
    Calls Try.prog 35 #[.pointer (some ⟨b, 0, none⟩), .int .i64 (j : Nat), accV 1 rf ac n was A m c] w fun e w' => ∃ A' m' c' er, e = .returned (if er = 0 then resV 0 0 false A' m' c' else resV er 0 false none 0 0) ∧ w.heap.size ≤ w'.heap.size ∧ X A' m' c' er w' := by
  have hlt := lt_of_heap hbox
  refine (do_in (X := fun er9 z9 ok9 A9 m9 c9 w' => ∃ A' m' c' er, (er = er9 ∧ 0 = z9 ∧ false = ok9 ∧ A' = A9 ∧ m' = m9 ∧ c' = c9) ∧ X A' m' c' er w') hbox j hj 1 rf ac n was A m c (fun W hb hs => ?_) ?_).mono ?_
  · refine (perf1 (X := fun A' m' c' er w' => W.heap.size ≤ w'.heap.size ∧ w'.heap[w.heap.size + 1]? = W.heap[w.heap.size + 1]? ∧ X A' m' c' er w') ((hb.block b hlt).trans hbox) (j : Nat) rf ac n was A m c (fun W' hb' hs' => ?_) ?_).mono ?_
    · refine (hc W' (hb.trans (hb'.mono hb.size)) (by omega)).mono ?_
      rintro e w' ⟨A', m', c', er, rfl, h1, h2, h3⟩
      exact ⟨A', m', c', er, rfl, h1, fun x hx hl => h2 x (hx.elim .inl (fun h => .inr (by omega))) hl, by have := hb'.size; omega, (h2 _ (.inr (by omega)) (by have := hb'.size; omega)).trans (hb'.block _ (by omega)), h3⟩
    · rintro A' m' c' er w' w'' ⟨h1, h2, h3⟩ ha
      exact ⟨Nat.le_trans h1 ha.size, (ha.block _ (by omega) (by omega)).trans h2, hX _ _ _ _ _ _ h3 (ha.wide (by omega) (by omega))⟩
    · rintro e w' ⟨A', m', c', er, rfl, h1, h2, h3, h4⟩
      exact ⟨_, _, _, _, _, _, rfl, h2, h3, A', m', c', er, ⟨rfl, rfl, rfl, rfl, rfl, rfl⟩, h4⟩
  · rintro er9 z9 ok9 A9 m9 c9 w' w'' ⟨A', m', c', er, h1, h2⟩ ha _
    exact ⟨A', m', c', er, h1, hX _ _ _ _ _ _ h2 (ha.wide (Nat.le_refl _) (by omega))⟩
  · rintro e w' ⟨er9, z9, ok9, A9, m9, c9, rfl, h1, A', m', c', er, ⟨rfl, rfl, rfl, rfl, rfl, rfl⟩, h3⟩
    exact ⟨A', m', c', er, rfl, h1, h3⟩
set_option maxHeartbeats 800000 in
/-- Do at the kind 2. -/
theorem do2 {X : Bool → Int → World → Prop} {b B E k : Nat} {root hold : Int} {w : World} (hbox : w.heap[b]? = some (.cells #[.pointer (some ⟨B, 0, none⟩), .pointer (some ⟨E, 0, none⟩), .int .i64 root, .int .i64 (k : Nat), .int .i64 hold] 135 (0, 0))) (j : Nat) (hj : j < k) (rf ac n was : Int) (A : Option Addr) (m c : Nat)
    (hc : ∀ W, Below w.heap.size w W → W.heap.size = w.heap.size + 4 → Calls Try.prog 17 #[.pointer (some ⟨B, 0, none⟩), .int .i64 rf, .int .u64 was, .slice A m c] W fun e w' => ∃ ok er, e = .returned (.tuple #[.bool ok, .int .i64 er]) ∧ W.heap.size ≤ w'.heap.size ∧ (∀ x, x = b ∨ w.heap.size ≤ x → x < W.heap.size → w'.heap[x]? = W.heap[x]?) ∧ X ok er w')
    (hX : ∀ ok er w' w'', X ok er w' → Al w.heap.size (w.heap.size + 4) w' w'' → X ok er w'') :
    Calls Try.prog 35 #[.pointer (some ⟨b, 0, none⟩), .int .i64 (j : Nat), accV 2 rf ac n was A m c] w fun e w' => ∃ ok er, e = .returned (if er = 0 then resV 0 0 ok none 0 0 else resV er 0 false none 0 0) ∧ w.heap.size ≤ w'.heap.size ∧ X ok er w' := by
  have hlt := lt_of_heap hbox
  refine (do_in (X := fun er9 z9 ok9 A9 m9 c9 w' => ∃ ok er, (er = er9 ∧ 0 = z9 ∧ ok = ok9 ∧ none = A9 ∧ 0 = m9 ∧ 0 = c9) ∧ X ok er w') hbox j hj 2 rf ac n was A m c (fun W hb hs => ?_) ?_).mono ?_
  · refine (perf2 (X := fun ok er w' => W.heap.size ≤ w'.heap.size ∧ w'.heap[w.heap.size + 1]? = W.heap[w.heap.size + 1]? ∧ X ok er w') ((hb.block b hlt).trans hbox) (j : Nat) rf ac n was A m c (fun W' hb' hs' => ?_) ?_).mono ?_
    · refine (hc W' (hb.trans (hb'.mono hb.size)) (by omega)).mono ?_
      rintro e w' ⟨ok, er, rfl, h1, h2, h3⟩
      exact ⟨ok, er, rfl, h1, fun x hx hl => h2 x (hx.elim .inl (fun h => .inr (by omega))) hl, by have := hb'.size; omega, (h2 _ (.inr (by omega)) (by have := hb'.size; omega)).trans (hb'.block _ (by omega)), h3⟩
    · rintro ok er w' w'' ⟨h1, h2, h3⟩ ha
      exact ⟨Nat.le_trans h1 ha.size, (ha.block _ (by omega) (by omega)).trans h2, hX _ _ _ _ h3 (ha.wide (by omega) (by omega))⟩
    · rintro e w' ⟨ok, er, rfl, h1, h2, h3, h4⟩
      exact ⟨_, _, _, _, _, _, rfl, h2, h3, ok, er, ⟨rfl, rfl, rfl, rfl, rfl, rfl⟩, h4⟩
  · rintro er9 z9 ok9 A9 m9 c9 w' w'' ⟨ok, er, h1, h2⟩ ha _
    exact ⟨ok, er, h1, hX _ _ _ _ h2 (ha.wide (Nat.le_refl _) (by omega))⟩
  · rintro e w' ⟨er9, z9, ok9, A9, m9, c9, rfl, h1, ok, er, ⟨rfl, rfl, rfl, rfl, rfl, rfl⟩, h3⟩
    exact ⟨ok, er, rfl, h1, h3⟩
set_option maxHeartbeats 800000 in
/-- Do at the kind 4. -/
theorem do4 {X : Int → Int → World → Prop} {b B E k : Nat} {root hold : Int} {w : World} (hbox : w.heap[b]? = some (.cells #[.pointer (some ⟨B, 0, none⟩), .pointer (some ⟨E, 0, none⟩), .int .i64 root, .int .i64 (k : Nat), .int .i64 hold] 135 (0, 0))) (j : Nat) (hj : j < k) (rf ac n was : Int) (A : Option Addr) (m c : Nat)
    (hc : ∀ W, Below w.heap.size w W → W.heap.size = w.heap.size + 4 → Calls Try.prog 23 #[.pointer (some ⟨B, 0, none⟩), .int .i64 ac, .slice A m c] W fun e w' => ∃ z er, e = .returned (.tuple #[.int .i64 z, .int .i64 er]) ∧ W.heap.size ≤ w'.heap.size ∧ (∀ x, x = b ∨ w.heap.size ≤ x → x < W.heap.size → w'.heap[x]? = W.heap[x]?) ∧ X z er w')
    (hX : ∀ z er w' w'', X z er w' → Al w.heap.size (w.heap.size + 4) w' w'' → X z er w'') :
    Calls Try.prog 35 #[.pointer (some ⟨b, 0, none⟩), .int .i64 (j : Nat), accV 4 rf ac n was A m c] w fun e w' => ∃ z er, e = .returned (if er = 0 then resV 0 z false none 0 0 else resV er 0 false none 0 0) ∧ w.heap.size ≤ w'.heap.size ∧ X z er w' := by
  have hlt := lt_of_heap hbox
  refine (do_in (X := fun er9 z9 ok9 A9 m9 c9 w' => ∃ z er, (er = er9 ∧ z = z9 ∧ false = ok9 ∧ none = A9 ∧ 0 = m9 ∧ 0 = c9) ∧ X z er w') hbox j hj 4 rf ac n was A m c (fun W hb hs => ?_) ?_).mono ?_
  · refine (perf4 (X := fun z er w' => W.heap.size ≤ w'.heap.size ∧ w'.heap[w.heap.size + 1]? = W.heap[w.heap.size + 1]? ∧ X z er w') ((hb.block b hlt).trans hbox) (j : Nat) rf ac n was A m c (fun W' hb' hs' => ?_) ?_).mono ?_
    · refine (hc W' (hb.trans (hb'.mono hb.size)) (by omega)).mono ?_
      rintro e w' ⟨z, er, rfl, h1, h2, h3⟩
      exact ⟨z, er, rfl, h1, fun x hx hl => h2 x (hx.elim .inl (fun h => .inr (by omega))) hl, by have := hb'.size; omega, (h2 _ (.inr (by omega)) (by have := hb'.size; omega)).trans (hb'.block _ (by omega)), h3⟩
    · rintro z er w' w'' ⟨h1, h2, h3⟩ ha
      exact ⟨Nat.le_trans h1 ha.size, (ha.block _ (by omega) (by omega)).trans h2, hX _ _ _ _ h3 (ha.wide (by omega) (by omega))⟩
    · rintro e w' ⟨z, er, rfl, h1, h2, h3, h4⟩
      exact ⟨_, _, _, _, _, _, rfl, h2, h3, z, er, ⟨rfl, rfl, rfl, rfl, rfl, rfl⟩, h4⟩
  · rintro er9 z9 ok9 A9 m9 c9 w' w'' ⟨z, er, h1, h2⟩ ha _
    exact ⟨z, er, h1, hX _ _ _ _ h2 (ha.wide (Nat.le_refl _) (by omega))⟩
  · rintro e w' ⟨er9, z9, ok9, A9, m9, c9, rfl, h1, z, er, ⟨rfl, rfl, rfl, rfl, rfl, rfl⟩, h3⟩
    exact ⟨z, er, rfl, h1, h3⟩
set_option maxHeartbeats 800000 in
/-- Do at the kind 5. -/
theorem do5 {X : Int → World → Prop} {b B E k : Nat} {root hold : Int} {w : World} (hbox : w.heap[b]? = some (.cells #[.pointer (some ⟨B, 0, none⟩), .pointer (some ⟨E, 0, none⟩), .int .i64 root, .int .i64 (k : Nat), .int .i64 hold] 135 (0, 0))) (j : Nat) (hj : j < k) (rf ac n was : Int) (A : Option Addr) (m c : Nat)
    (hc : ∀ W, Below w.heap.size w W → W.heap.size = w.heap.size + 4 → Calls Try.prog 84 #[.pointer (some ⟨b, 0, none⟩), .int .i64 rf] W fun e w' => ∃ er, e = .returned (.int .i64 er) ∧ W.heap.size ≤ w'.heap.size ∧ (∀ x, w.heap.size ≤ x → x < W.heap.size → w'.heap[x]? = W.heap[x]?) ∧ X er w')
    (hX : ∀ er w' w'', X er w' → Al w.heap.size (w.heap.size + 4) w' w'' → X er w'') :
    Calls Try.prog 35 #[.pointer (some ⟨b, 0, none⟩), .int .i64 (j : Nat), accV 5 rf ac n was A m c] w fun e w' => ∃ er, e = .returned (if er = 0 then resV 0 0 false none 0 0 else resV er 0 false none 0 0) ∧ w.heap.size ≤ w'.heap.size ∧ X er w' := by
  have hlt := lt_of_heap hbox
  refine (do_in (X := fun er9 z9 ok9 A9 m9 c9 w' => ∃ er, (er = er9 ∧ 0 = z9 ∧ false = ok9 ∧ none = A9 ∧ 0 = m9 ∧ 0 = c9) ∧ X er w') hbox j hj 5 rf ac n was A m c (fun W hb hs => ?_) ?_).mono ?_
  · refine (perf5 (X := fun er w' => W.heap.size ≤ w'.heap.size ∧ w'.heap[w.heap.size + 1]? = W.heap[w.heap.size + 1]? ∧ X er w') ((hb.block b hlt).trans hbox) (j : Nat) rf ac n was A m c (fun W' hb' hs' => ?_) ?_).mono ?_
    · refine (hc W' (hb.trans (hb'.mono hb.size)) (by omega)).mono ?_
      rintro e w' ⟨er, rfl, h1, h2, h3⟩
      exact ⟨er, rfl, h1, fun x hx hl => h2 x (by omega) hl, by have := hb'.size; omega, (h2 _ (by omega) (by have := hb'.size; omega)).trans (hb'.block _ (by omega)), h3⟩
    · rintro er w' w'' ⟨h1, h2, h3⟩ ha
      exact ⟨Nat.le_trans h1 ha.size, (ha.block _ (by omega) (by omega)).trans h2, hX _ _ _ h3 (ha.wide (by omega) (by omega))⟩
    · rintro e w' ⟨er, rfl, h1, h2, h3, h4⟩
      exact ⟨_, _, _, _, _, _, rfl, h2, h3, er, ⟨rfl, rfl, rfl, rfl, rfl, rfl⟩, h4⟩
  · rintro er9 z9 ok9 A9 m9 c9 w' w'' ⟨er, h1, h2⟩ ha _
    exact ⟨er, h1, hX _ _ _ h2 (ha.wide (Nat.le_refl _) (by omega))⟩
  · rintro e w' ⟨er9, z9, ok9, A9, m9, c9, rfl, h1, er, ⟨rfl, rfl, rfl, rfl, rfl, rfl⟩, h3⟩
    exact ⟨er, rfl, h1, h3⟩
set_option maxHeartbeats 800000 in
/-- Do at the kind 6. -/
theorem do6 {X : Int → World → Prop} {b B E k : Nat} {root hold : Int} {w : World} (hbox : w.heap[b]? = some (.cells #[.pointer (some ⟨B, 0, none⟩), .pointer (some ⟨E, 0, none⟩), .int .i64 root, .int .i64 (k : Nat), .int .i64 hold] 135 (0, 0))) (j : Nat) (hj : j < k) (rf ac n was : Int) (A : Option Addr) (m c : Nat)
    (hc : ∀ W, Below w.heap.size w W → W.heap.size = w.heap.size + 4 → Calls Try.prog 85 #[.pointer (some ⟨b, 0, none⟩), .int .i64 (j : Nat), .int .i64 rf] W fun e w' => ∃ er, e = .returned (.int .i64 er) ∧ W.heap.size ≤ w'.heap.size ∧ (∀ x, w.heap.size ≤ x → x < W.heap.size → w'.heap[x]? = W.heap[x]?) ∧ X er w')
    (hX : ∀ er w' w'', X er w' → Al w.heap.size (w.heap.size + 4) w' w'' → X er w'') :
    Calls Try.prog 35 #[.pointer (some ⟨b, 0, none⟩), .int .i64 (j : Nat), accV 6 rf ac n was A m c] w fun e w' => ∃ er, e = .returned (if er = 0 then resV 0 0 false none 0 0 else resV er 0 false none 0 0) ∧ w.heap.size ≤ w'.heap.size ∧ X er w' := by
  have hlt := lt_of_heap hbox
  refine (do_in (X := fun er9 z9 ok9 A9 m9 c9 w' => ∃ er, (er = er9 ∧ 0 = z9 ∧ false = ok9 ∧ none = A9 ∧ 0 = m9 ∧ 0 = c9) ∧ X er w') hbox j hj 6 rf ac n was A m c (fun W hb hs => ?_) ?_).mono ?_
  · refine (perf6 (X := fun er w' => W.heap.size ≤ w'.heap.size ∧ w'.heap[w.heap.size + 1]? = W.heap[w.heap.size + 1]? ∧ X er w') ((hb.block b hlt).trans hbox) (j : Nat) rf ac n was A m c (fun W' hb' hs' => ?_) ?_).mono ?_
    · refine (hc W' (hb.trans (hb'.mono hb.size)) (by omega)).mono ?_
      rintro e w' ⟨er, rfl, h1, h2, h3⟩
      exact ⟨er, rfl, h1, fun x hx hl => h2 x (by omega) hl, by have := hb'.size; omega, (h2 _ (by omega) (by have := hb'.size; omega)).trans (hb'.block _ (by omega)), h3⟩
    · rintro er w' w'' ⟨h1, h2, h3⟩ ha
      exact ⟨Nat.le_trans h1 ha.size, (ha.block _ (by omega) (by omega)).trans h2, hX _ _ _ h3 (ha.wide (by omega) (by omega))⟩
    · rintro e w' ⟨er, rfl, h1, h2, h3, h4⟩
      exact ⟨_, _, _, _, _, _, rfl, h2, h3, er, ⟨rfl, rfl, rfl, rfl, rfl, rfl⟩, h4⟩
  · rintro er9 z9 ok9 A9 m9 c9 w' w'' ⟨er, h1, h2⟩ ha _
    exact ⟨er, h1, hX _ _ _ h2 (ha.wide (Nat.le_refl _) (by omega))⟩
  · rintro e w' ⟨er9, z9, ok9, A9, m9, c9, rfl, h1, er, ⟨rfl, rfl, rfl, rfl, rfl, rfl⟩, h3⟩
    exact ⟨er, rfl, h1, h3⟩
end Go.Proofs.Ytndmpdpmfieacaa

namespace Go.Proofs.Ytndmpdpmfieacaa
open Go.RowKit Go.WideShapes Go.ChangeShapes
set_option linter.all false
/-- A live slot. -/
structure SL (sl : List Sl) (i c gn : Nat) (ws : List Int) : Prop where
  lt : i < sl.length
  cls : (sl.getD i dS).cls = c
  gen : (sl.getD i dS).gen = gn
  live : (sl.getD i dS).live = true
  ws : (sl.getD i dS).ws = ws
/-- A memory, and that the law has left alone what was there before. -/
structure ST (M : Nat) (w0 : World) (N b B S E R k K G : Nat) (lim root : Int) (sl : List Sl) (P I : Nat → Nat) (V : Nat → Value) (xs : Nat → List Int) (W : World) : Prop where
  mm : MM N b B S E R k K G lim root sl P I V xs W
  bel : Below M w0 W
  MN : M ≤ N
  M0 : M ≤ W.heap.size
section
variable {M N b B S E R k K G : Nat} {lim root : Int} {sl : List Sl} {P I : Nat → Nat} {V : Nat → Value} {xs : Nat → List Int} {w0 w w' : World}
theorem ST.on (h : ST M w0 N b B S E R k K G lim root sl P I V xs w) (hb : Below w.heap.size w w') : ST M w0 N b B S E R k K G lim root sl P I V xs w' :=
  ⟨h.mm.on hb, h.bel.trans (hb.mono h.M0), h.MN, Nat.le_trans h.M0 hb.size⟩
theorem ST.mv (h : ST M w0 N b B S E R k K G lim root sl P I V xs w) {sl' : List Sl} {V' : Nat → Value} {xs' : Nat → List Int} (hm : MM N b B S E R k K G lim root sl' P I V' xs' w')
    (hv : Mv (Foot B S 5 sl P I V) (Foot B S 5 sl' P I V') w w') (h0 : M ≤ w0.heap.size) : ST M w0 N b B S E R k K G lim root sl' P I V' xs' w' :=
  ⟨hm, hv.below h.bel (fun a hf => Nat.le_trans h.MN (Nat.le_trans h.mm.ar.NS (h.mm.ar.foot hf).1)) h0, h.MN, Nat.le_trans h.M0 hv.size⟩
theorem ST.al (h : ST M w0 N b B S E R k K G lim root sl P I V xs w) {lo hi : Nat} (ha : Al lo hi w w') (hq : ∀ a, Foot B S 5 sl P I V a → a < lo ∨ hi ≤ a) (h1 : b < lo) (h2 : E < lo) (h3 : R < lo) (hM : M ≤ lo) : ST M w0 N b B S E R k K G lim root sl P I V xs w' :=
  ⟨h.mm.al ha hq (.inl h1) (.inl h2) (.inl h3), ha.below h.bel hM h.M0, h.MN, Nat.le_trans h.M0 ha.size⟩
/-- The blocks that a memory stands on lie below the heap's end. -/
theorem MM.lts (h : MM N b B S E R k K G lim root sl P I V xs w) : b < w.heap.size ∧ E < w.heap.size ∧ R < w.heap.size ∧ ∀ a, Foot B S 5 sl P I V a → a < w.heap.size :=
  ⟨h.lt, h.ep.lt, h.ep.ltR h.k1, fun a hf => (h.ar.foot hf).2⟩
theorem mm_alloc (h : MM N b B S E R k K G lim root sl P I V xs w) (hG : G ≤ 1000000) {c m d M' : Nat} {A : Option Addr} {l : List Int} (hc : c < 5) (hr : Reads w M' 1 A m (wv l)) (hM : M' ≤ w.heap.size) (hfar : ∀ ad, A = some ad → 0 < m → ¬ Foot B S 5 sl P I V ad.block) (hm : m ≤ szN c) (hx : xs c ≠ []) :
    Calls Try.prog 23 #[.pointer (some ⟨B, 0, none⟩), .int .i64 (c : Nat), .slice A m d] w fun e w' => ∃ i gn, e = .returned (.tuple #[.int .i64 (refV (i : Nat) (gn : Nat) (((c : Nat) : Int) == 0)), .int .i64 0]) ∧ ∃ sl' V' xs',
      MM N b B S E R k K G lim root sl' P I V' xs' w' ∧ Mv (Foot B S 5 sl P I V) (Foot B S 5 sl' P I V') w w' ∧ SL sl' i c gn (fillL (szN c) l) := by
  obtain ⟨i, hi, hxi, hic, hil⟩ := h.ok.head hx
  have hg := h.ok.gen i hi
  refine (alloc_ok h.ar h.len (i := i) hc hr hM hfar hm hx (by have := h.cnt c; omega) hi hxi hic (by omega)).mono ?_
  rintro e w' ⟨rfl, v', har, hmv⟩
  refine ⟨i, (sl.getD i dS).gen, rfl, _, _, _, h.mv har (h.ok.alloc hi hx hxi hic (h.ar.pl c hc).nodup l) (by rw [List.length_set]; exact h.len) (fun d => ?_) hmv, hmv, ⟨by rw [List.length_set]; exact hi, ?_, ?_, ?_, ?_⟩⟩
  · by_cases e : d = c
    · subst e; rw [up_same, popF_len _ hx]; have := h.cnt d; omega
    · rw [up_other _ _ e]; exact h.cnt d
  · rw [getD_set hi, if_pos rfl]; exact hic
  · rw [getD_set hi, if_pos rfl]; rfl
  · rw [getD_set hi, if_pos rfl]; rfl
  · rw [getD_set hi, if_pos rfl]
    show fillL (szN (sl.getD i dS).cls) l = _
    rw [hic]
theorem SL.ref {i c gn : Nat} {ws : List Int} (h : SL sl i c gn ws) (hl : sl.length ≤ 1024) (hg : 1 ≤ gn ∧ gn ≤ 1073741824) : Live sl (refV (i : Nat) (gn : Nat) (((c : Nat) : Int) == 0)) i := by
  have h1 := h.lt
  have h2 := h.cls
  have h3 := h.gen
  have := live_ref (sl := sl) (i := i) h.lt (by omega) h.live (by omega)
  rw [h2, h3] at this
  exact this
theorem mm_swap_ok (h : MM N b B S E R k K G lim root sl P I V xs w) (hG : G ≤ 1000000) {i c gn m d M' : Nat} {A : Option Addr} {l ws : List Int} {x : Int} (hs : SL sl i c gn ws) (hr : Reads w M' 1 A m (wv l)) (hm : m ≤ szN c) (hx : ws.getD 0 0 = x) :
    Calls Try.prog 17 #[.pointer (some ⟨B, 0, none⟩), .int .i64 (refV (i : Nat) (gn : Nat) (((c : Nat) : Int) == 0)), .int .u64 x, .slice A m d] w fun e w' => e = .returned (.tuple #[.bool true, .int .i64 0]) ∧ ∃ sl',
      MM N b B S E R k K G lim root sl' P I V xs w' ∧ Mv (Foot B S 5 sl P I V) (Foot B S 5 sl' P I V) w w' ∧ SL sl' i c gn (fillL (szN c) l) := by
  have hg := h.ok.gen i hs.lt
  have hgn := hs.gen
  have hcl := hs.cls
  have hi := hs.lt
  have hlv := hs.ref h.len (by omega)
  refine (swap_ok h.ar h.len hlv hr (by rw [hcl]; exact hm) (by rw [hs.ws]; exact hx)).mono ?_
  rintro e w' ⟨rfl, har, hmv⟩
  rw [hcl] at har
  have key : ∀ j, ((sl.set i { sl.getD i dS with ws := fillL (szN c) l }).getD j dS).cls = (sl.getD j dS).cls ∧ ((sl.set i { sl.getD i dS with ws := fillL (szN c) l }).getD j dS).gen = (sl.getD j dS).gen ∧ ((sl.set i { sl.getD i dS with ws := fillL (szN c) l }).getD j dS).live = (sl.getD j dS).live ∧ ((sl.set i { sl.getD i dS with ws := fillL (szN c) l }).getD j dS).blk = (sl.getD j dS).blk := fun j => by
    rw [getD_set hi]
    split
    · rename_i e; subst e; exact ⟨rfl, rfl, rfl, rfl⟩
    · exact ⟨rfl, rfl, rfl, rfl⟩
  have hmv' := hmv.to (F'' := Foot B S 5 (sl.set i { sl.getD i dS with ws := fillL (szN c) l }) P I V) (fun b hb => foot_len (List.length_set ..) (fun j => (key j).2.2.2) hb)
  refine ⟨rfl, _, h.mv har ⟨fun j hj => ?_, fun e y hy => ?_, fun j hj => ?_⟩ (by rw [List.length_set]; exact h.len) h.cnt hmv', hmv', ⟨by rw [List.length_set]; exact hi, ?_, ?_, ?_, ?_⟩⟩
  · rw [List.length_set] at hj
    rw [(key j).1, (key j).2.2.1]; exact h.ok.free j hj
  · obtain ⟨j, hj, e1, e2⟩ := h.ok.only e y hy
    exact ⟨j, by rw [List.length_set]; exact hj, e1, by rw [(key j).1]; exact e2⟩
  · rw [List.length_set] at hj
    rw [(key j).2.1]; exact h.ok.gen j hj
  · rw [(key i).1]; exact hcl
  · rw [(key i).2.1]; exact hgn
  · rw [(key i).2.2.1]; exact hs.live
  · rw [getD_set hi, if_pos rfl]
theorem mm_swap_ne (h : MM N b B S E R k K G lim root sl P I V xs w) (hG : G ≤ 1000000) {i c gn m d : Nat} {A : Option Addr} {ws : List Int} {x : Int} (hs : SL sl i c gn ws) (hm : m ≤ szN c) (hx : ws.getD 0 0 ≠ x) :
    Calls Try.prog 17 #[.pointer (some ⟨B, 0, none⟩), .int .i64 (refV (i : Nat) (gn : Nat) (((c : Nat) : Int) == 0)), .int .u64 x, .slice A m d] w fun e w' => e = .returned (.tuple #[.bool false, .int .i64 0]) ∧ w' = w := by
  have hg := h.ok.gen i hs.lt
  have hgn := hs.gen
  exact swap_ne h.ar h.len (hs.ref h.len (by omega)) x A m d (by rw [hs.cls]; exact hm) (by rw [hs.ws]; exact hx)
theorem mm_load (h : MM N b B S E R k K G lim root sl P I V xs w) (hG : G ≤ 1000000) {i c gn : Nat} {ws : List Int} (hs : SL sl i c gn ws) :
    Calls Try.prog 16 #[.pointer (some ⟨B, 0, none⟩), .int .i64 (refV (i : Nat) (gn : Nat) (((c : Nat) : Int) == 0))] w fun e w' => ∃ g, e = .returned (.tuple #[.slice (some ⟨g, 0, none⟩) (szN c) (szN c), .int .i64 0]) ∧ w'.heap[g]? = some (.cells (wv ws).toArray 35 (0, 0)) ∧ w.heap.size ≤ g ∧ Below w.heap.size w w' := by
  have hg := h.ok.gen i hs.lt
  have hgn := hs.gen
  have := load_ok h.ar h.len (hs.ref h.len (by omega))
  rw [hs.cls, hs.ws] at this
  exact this
end
end Go.Proofs.Ytndmpdpmfieacaa

namespace Go.Proofs.Ytndmpdpmfieacaa
open Go.RowKit Go.WideShapes Go.ChangeShapes
set_option linter.all false
set_option maxRecDepth 100000
section
variable {M N b B S E R k K G : Nat} {lim root : Int} {sl : List Sl} {P I : Nat → Nat} {V : Nat → Value} {xs : Nat → List Int} {w0 w w' : World}
theorem MM.keep (h : MM N b B S E R k K G lim root sl P I V xs w) {W W' : World} {F' : Nat → Prop} (hm : Mv (Foot B S 5 sl P I V) F' W W') : ∀ x, x = b ∨ w.heap.size ≤ x → x < W.heap.size → W'.heap[x]? = W.heap[x]? := fun x hx hl => by
  refine hm.block x hl fun hf => ?_
  have := (h.ar.foot hf).2
  rcases hx with rfl | hx
  · exact h.fb hf
  · omega
theorem do_alloc (h : ST M w0 N b B S E R k K G lim root sl P I V xs w) (h0 : M ≤ w0.heap.size) (hG : G ≤ 1000000) (j : Nat) (hj : j < k) (rf n was : Int) {c m d M' : Nat} {A : Option Addr} {l : List Int} (hc : c < 5) (hr : Reads w M' 1 A m (wv l)) (hM : M' ≤ w.heap.size) (hfar : ∀ ad, A = some ad → 0 < m → ¬ Foot B S 5 sl P I V ad.block) (hm : m ≤ szN c) (hx : xs c ≠ []) :
    Calls Try.prog 35 #[.pointer (some ⟨b, 0, none⟩), .int .i64 (j : Nat), accV 4 rf (c : Nat) n was A m d] w fun e w' => ∃ i gn, e = .returned (resV 0 (refV (i : Nat) (gn : Nat) (((c : Nat) : Int) == 0)) false none 0 0) ∧ w.heap.size ≤ w'.heap.size ∧ ∃ sl' V' xs', ST M w0 N b B S E R k K G lim root sl' P I V' xs' w' ∧ SL sl' i c gn (fillL (szN c) l) ∧ ∀ a, M ≤ a → a < w.heap.size → ¬ Foot B S 5 sl P I V a → w'.heap[a]? = w.heap[a]? ∧ ¬ Foot B S 5 sl' P I V' a := by
  obtain ⟨l1, l2, l3, l4⟩ := h.mm.lts
  refine (do4 (X := fun z er w' => er = 0 ∧ ∃ i gn, z = refV (i : Nat) (gn : Nat) (((c : Nat) : Int) == 0) ∧ ∃ sl' V' xs', ST M w0 N b B S E R k K G lim root sl' P I V' xs' w' ∧ SL sl' i c gn (fillL (szN c) l) ∧ (∀ a, Foot B S 5 sl' P I V' a → a < w.heap.size ∨ w.heap.size + 4 ≤ a) ∧ w.heap.size + 4 ≤ w'.heap.size ∧ ∀ a, M ≤ a → a < w.heap.size → ¬ Foot B S 5 sl P I V a → w'.heap[a]? = w.heap[a]? ∧ ¬ Foot B S 5 sl' P I V' a) h.mm.box j hj rf (c : Nat) n was A m d (fun W hb hs => ?_) ?_).mono ?_
  · have hW := h.on hb
    refine (mm_alloc hW.mm hG (d := d) hc (hr.below (hb.mono hM)) (by omega) hfar hm hx).mono ?_
    rintro e w' ⟨i, gn, rfl, sl', V', xs', hmm, hmv, hsl⟩
    have hsz := hmv.size
    refine ⟨_, _, rfl, hsz, h.mm.keep hmv, rfl, i, gn, rfl, sl', V', xs', hW.mv hmm hmv h0, hsl, fun a hf => ?_, by omega, fun a ha hl hn => ?_⟩
    · rcases hmv.foot a hf with h1 | h1
      · exact .inl (l4 a h1)
      · omega
    · refine ⟨(hmv.block a (by omega) hn).trans (hb.block a hl), fun hf => ?_⟩
      rcases hmv.foot a hf with h1 | h1
      · exact hn h1
      · omega
  · rintro z er w' w'' ⟨rfl, i, gn, rfl, sl', V', xs', h1, h2, h3, h4, h5⟩ ha
    exact ⟨rfl, i, gn, rfl, sl', V', xs', h1.al ha h3 l1 l2 l3 h.M0, h2, h3, Nat.le_trans h4 ha.size, fun a hM ha2 hn => ⟨(ha.block a (by omega) (.inl ha2)).trans (h5 a hM ha2 hn).1, (h5 a hM ha2 hn).2⟩⟩
  · rintro e w' ⟨z, er, rfl, hs, rfl, i, gn, rfl, sl', V', xs', h1, h2, h3, h4, h5⟩
    exact ⟨i, gn, rfl, hs, sl', V', xs', h1, h2, h5⟩
theorem do_swap_ok (h : ST M w0 N b B S E R k K G lim root sl P I V xs w) (h0 : M ≤ w0.heap.size) (hG : G ≤ 1000000) (j : Nat) (hj : j < k) (ac n x : Int) {i c gn m d M' : Nat} {A : Option Addr} {l ws : List Int} (hs : SL sl i c gn ws) (hr : Reads w M' 1 A m (wv l)) (hM : M' ≤ w.heap.size) (hm : m ≤ szN c) (hx : ws.getD 0 0 = x) :
    Calls Try.prog 35 #[.pointer (some ⟨b, 0, none⟩), .int .i64 (j : Nat), accV 2 (refV (i : Nat) (gn : Nat) (((c : Nat) : Int) == 0)) ac n x A m d] w fun e w' => e = .returned (resV 0 0 true none 0 0) ∧ w.heap.size ≤ w'.heap.size ∧ ∃ sl', ST M w0 N b B S E R k K G lim root sl' P I V xs w' ∧ SL sl' i c gn (fillL (szN c) l) ∧ ∀ a, M ≤ a → a < w.heap.size → ¬ Foot B S 5 sl P I V a → w'.heap[a]? = w.heap[a]? ∧ ¬ Foot B S 5 sl' P I V a := by
  obtain ⟨l1, l2, l3, l4⟩ := h.mm.lts
  refine (do2 (X := fun ok er w' => er = 0 ∧ ok = true ∧ ∃ sl', ST M w0 N b B S E R k K G lim root sl' P I V xs w' ∧ SL sl' i c gn (fillL (szN c) l) ∧ (∀ a, Foot B S 5 sl' P I V a → a < w.heap.size ∨ w.heap.size + 4 ≤ a) ∧ w.heap.size + 4 ≤ w'.heap.size ∧ ∀ a, M ≤ a → a < w.heap.size → ¬ Foot B S 5 sl P I V a → w'.heap[a]? = w.heap[a]? ∧ ¬ Foot B S 5 sl' P I V a) h.mm.box j hj (refV (i : Nat) (gn : Nat) (((c : Nat) : Int) == 0)) ac n x A m d (fun W hb hs4 => ?_) ?_).mono ?_
  · have hW := h.on hb
    refine (mm_swap_ok hW.mm hG (d := d) hs (hr.below (hb.mono hM)) hm hx).mono ?_
    rintro e w' ⟨rfl, sl', hmm, hmv, hsl⟩
    have hsz := hmv.size
    refine ⟨_, _, rfl, hsz, h.mm.keep hmv, rfl, rfl, sl', hW.mv hmm hmv h0, hsl, fun a hf => ?_, by omega, fun a ha hl hn => ?_⟩
    · rcases hmv.foot a hf with h1 | h1
      · exact .inl (l4 a h1)
      · omega
    · refine ⟨(hmv.block a (by omega) hn).trans (hb.block a hl), fun hf => ?_⟩
      rcases hmv.foot a hf with h1 | h1
      · exact hn h1
      · omega
  · rintro ok er w' w'' ⟨rfl, rfl, sl', h1, h2, h3, h4, h5⟩ ha
    exact ⟨rfl, rfl, sl', h1.al ha h3 l1 l2 l3 h.M0, h2, h3, Nat.le_trans h4 ha.size, fun a hM ha2 hn => ⟨(ha.block a (by omega) (.inl ha2)).trans (h5 a hM ha2 hn).1, (h5 a hM ha2 hn).2⟩⟩
  · rintro e w' ⟨ok, er, rfl, hs, rfl, rfl, sl', h1, h2, h3, h4, h5⟩
    exact ⟨rfl, hs, sl', h1, h2, h5⟩
/-- A call of Do that leaves all that was there as it was. -/
theorem below_of_al {w w1 w2 : World} {n : Nat} (hb : Below w.heap.size w w1) (ha : Al w.heap.size n w1 w2) : Below w.heap.size w w2 := ha.below hb (Nat.le_refl _) hb.size
theorem do_swap_ne (h : MM N b B S E R k K G lim root sl P I V xs w) (hG : G ≤ 1000000) (j : Nat) (hj : j < k) (ac n x : Int) {i c gn m d : Nat} {A : Option Addr} {ws : List Int} (hs : SL sl i c gn ws) (hm : m ≤ szN c) (hx : ws.getD 0 0 ≠ x) :
    Calls Try.prog 35 #[.pointer (some ⟨b, 0, none⟩), .int .i64 (j : Nat), accV 2 (refV (i : Nat) (gn : Nat) (((c : Nat) : Int) == 0)) ac n x A m d] w fun e w' => e = .returned (resV 0 0 false none 0 0) ∧ Below w.heap.size w w' := by
  refine (do2 (X := fun ok er w' => er = 0 ∧ ok = false ∧ Below w.heap.size w w') h.box j hj (refV (i : Nat) (gn : Nat) (((c : Nat) : Int) == 0)) ac n x A m d (fun W hb hs4 => ?_) ?_).mono ?_
  · refine (mm_swap_ne (h.on hb) hG (d := d) hs hm hx).mono ?_
    rintro e w' ⟨rfl, rfl⟩
    exact ⟨_, _, rfl, Nat.le_refl _, fun _ _ _ => rfl, rfl, rfl, hb⟩
  · rintro ok er w' w'' ⟨rfl, rfl, h1⟩ ha
    exact ⟨rfl, rfl, below_of_al h1 ha⟩
  · rintro e w' ⟨ok, er, rfl, hs, rfl, rfl, h1⟩
    exact ⟨rfl, h1⟩
theorem do_load (h : MM N b B S E R k K G lim root sl P I V xs w) (hG : G ≤ 1000000) (j : Nat) (hj : j < k) (ac n was : Int) (A : Option Addr) (m d : Nat) {i c gn : Nat} {ws : List Int} (hs : SL sl i c gn ws) :
    Calls Try.prog 35 #[.pointer (some ⟨b, 0, none⟩), .int .i64 (j : Nat), accV 1 (refV (i : Nat) (gn : Nat) (((c : Nat) : Int) == 0)) ac n was A m d] w fun e w' => ∃ g, e = .returned (resV 0 0 false (some ⟨g, 0, none⟩) (szN c) (szN c)) ∧ w'.heap[g]? = some (.cells (wv ws).toArray 35 (0, 0)) ∧ w.heap.size ≤ g ∧ Below w.heap.size w w' := by
  refine (do1 (X := fun A' m' c' er w' => er = 0 ∧ ∃ g, A' = some ⟨g, 0, none⟩ ∧ m' = szN c ∧ c' = szN c ∧ w'.heap[g]? = some (.cells (wv ws).toArray 35 (0, 0)) ∧ w.heap.size + 4 ≤ g ∧ Below w.heap.size w w') h.box j hj (refV (i : Nat) (gn : Nat) (((c : Nat) : Int) == 0)) ac n was A m d (fun W hb hs4 => ?_) ?_).mono ?_
  · refine (mm_load (h.on hb) hG hs).mono ?_
    rintro e w' ⟨g, rfl, h1, h2, h3⟩
    exact ⟨_, _, _, _, rfl, h3.size, fun x _ hl => h3.block x hl, rfl, g, rfl, rfl, rfl, h1, by omega, hb.trans (h3.mono hb.size)⟩
  · rintro A' m' c' er w' w'' ⟨rfl, g, rfl, rfl, rfl, h1, h2, h3⟩ ha
    exact ⟨rfl, g, rfl, rfl, rfl, (ha.block g (lt_of_heap h1) (.inr h2)).trans h1, h2, below_of_al h3 ha⟩
  · rintro e w' ⟨A', m', c', er, rfl, hs, rfl, g, rfl, rfl, rfl, h1, h2, h3⟩
    exact ⟨g, rfl, h1, by omega, h3⟩
end
end Go.Proofs.Ytndmpdpmfieacaa

namespace Go.Proofs.Ytndmpdpmfieacaa
open Go.RowKit Go.WideShapes Go.ChangeShapes Go.ChangeAt Go.Deep
set_option linter.all false
theorem okWide_st {P : Program} {w : World} {r : Reach} {base : Nat} {t : TypeId} {fs : Array Field} {v : Value} (ht : P.underlying t = some (.struct fs)) (h : Value.okWide P w r base t v) : ∃ cs, v = .agg cs ∧ cs.size = P.cellsOf t := by
  unfold Value.okWide at h
  rw [ht] at h
  obtain ⟨cs, e, hs, _⟩ := h
  exact ⟨cs, e, hs⟩
section
variable {H : Type} {enc : TypeId × Value → H}
set_option maxRecDepth 100000 in
theorem open_cfg {W : World} {v : Value} {d : DataW H} {pl : List MemPlace} {base : Nat} (hok : Value.okWide Try.prog W .any base 72 v) (h : DataW.Trod enc Try.prog W 0 (fun _ => true) true 72 v d pl) :
    ∃ s : Nat → Int, v = .agg (eight s) := by
  obtain ⟨cs, rfl, hsz⟩ := okWide_st Try.underlying72 hok
  have c72 : Try.prog.cellsOf 72 = 8 := by kernel_rfl
  have c22 : Try.prog.cellsOf 22 = 5 := by kernel_rfl
  have c3 : Try.prog.cellsOf 3 = 1 := by kernel_rfl
  rw [c72] at hsz
  obtain ⟨fuel, hf⟩ := h
  obtain ⟨ys, n', _, _, hlen, hyl, hfd⟩ := DataW.trod_struct Try.underlying72 hf
  obtain ⟨u0, u1, u2, u3, u4, u5, u6, u7, rfl⟩ : ∃ u0 u1 u2 u3 u4 u5 u6 u7, cs = #[u0, u1, u2, u3, u4, u5, u6, u7] := by
    obtain ⟨l⟩ := cs
    match l, hsz with
    | [u0, u1, u2, u3, u4, u5, u6, u7], _ => exact ⟨u0, u1, u2, u3, u4, u5, u6, u7, rfl⟩
  have g0 := hfd 0 { name := "Slots", type := 22, offset := 0, embedded := false, tag := "", pkgPath := "", byteOffset := 0 } rfl
  have g1 := hfd 1 { name := "Clients", type := 3, offset := 5, embedded := false, tag := "", pkgPath := "", byteOffset := 40 } rfl
  have g2 := hfd 2 { name := "Limbo", type := 3, offset := 6, embedded := false, tag := "", pkgPath := "", byteOffset := 48 } rfl
  have g3 := hfd 3 { name := "Tries", type := 3, offset := 7, embedded := false, tag := "", pkgPath := "", byteOffset := 56 } rfl
  have hy4 : ys.length = 4 := hyl
  simp only [c3, c22, Value.cells, List.drop_zero, List.drop_succ_cons, List.take_succ_cons, List.take_zero] at g0 g1 g2 g3
  rw [List.getElem?_eq_getElem (by omega)] at g0
  rw [List.getElem?_eq_getElem (by omega)] at g1
  rw [List.getElem?_eq_getElem (by omega)] at g2
  rw [List.getElem?_eq_getElem (by omega)] at g3
  obtain ⟨z5, e5, _⟩ := DataW.trod_int Try.underlying3 g1
  obtain ⟨z6, e6, _⟩ := DataW.trod_int Try.underlying3 g2
  obtain ⟨z7, e7, _⟩ := DataW.trod_int Try.underlying3 g3
  obtain ⟨zs, m, _, _, _, hzl, hel⟩ := DataW.trod_array Try.underlying22 g0
  have hzl5 : zs.length = 5 := hzl
  have k0 := hel 0 (by omega)
  have k1 := hel 1 (by omega)
  have k2 := hel 2 (by omega)
  have k3 := hel 3 (by omega)
  have k4 := hel 4 (by omega)
  simp only [c3, Nat.mul_one, Nat.zero_mul, Nat.one_mul, List.drop_zero, List.drop_succ_cons, List.take_succ_cons, List.take_zero] at k0 k1 k2 k3 k4
  rw [List.getElem?_eq_getElem (by omega)] at k0
  rw [List.getElem?_eq_getElem (by omega)] at k1
  rw [List.getElem?_eq_getElem (by omega)] at k2
  rw [List.getElem?_eq_getElem (by omega)] at k3
  rw [List.getElem?_eq_getElem (by omega)] at k4
  obtain ⟨z0, e0, _⟩ := DataW.trod_int Try.underlying3 k0
  obtain ⟨z1, e1, _⟩ := DataW.trod_int Try.underlying3 k1
  obtain ⟨z2, e2, _⟩ := DataW.trod_int Try.underlying3 k2
  obtain ⟨z3, e3, _⟩ := DataW.trod_int Try.underlying3 k3
  obtain ⟨z4, e4, _⟩ := DataW.trod_int Try.underlying3 k4
  simp only [List.cons.injEq, and_true] at e0 e1 e2 e3 e4 e5 e6 e7
  subst e0 e1 e2 e3 e4 e5 e6 e7
  exact ⟨fun i => if i = 0 then z0 else if i = 1 then z1 else if i = 2 then z2 else if i = 3 then z3 else if i = 4 then z4 else if i = 5 then z5 else if i = 6 then z6 else z7, rfl⟩
set_option maxRecDepth 100000 in
theorem open_acc {W : World} {v : Value} {d : DataW H} {pl : List MemPlace} {base : Nat} (hok : Value.okWide Try.prog W .any base 74 v) (h : DataW.Trod enc Try.prog W 0 (fun _ => true) true 74 v d pl) :
    ∃ kd rf ac n was A m c xs, v = accV kd rf ac n was A m c ∧ (Lit.int .i64 kd).wf = true ∧ m ≤ c ∧ c ≤ maxLen ∧ Reads W W.heap.size 1 A m (wv xs) := by
  obtain ⟨cs, rfl, hsz⟩ := okWide_st Try.underlying74 hok
  have c74 : Try.prog.cellsOf 74 = 6 := by kernel_rfl
  have c3 : Try.prog.cellsOf 3 = 1 := by kernel_rfl
  have c35 : Try.prog.cellsOf 35 = 1 := by kernel_rfl
  have c30 : Try.prog.cellsOf 30 = 1 := by kernel_rfl
  rw [c74] at hsz
  obtain ⟨fuel, hf⟩ := h
  obtain ⟨ys, n', _, _, hlen, hyl, hfd⟩ := DataW.trod_struct Try.underlying74 hf
  obtain ⟨u0, u1, u2, u3, u4, u5, rfl⟩ : ∃ u0 u1 u2 u3 u4 u5, cs = #[u0, u1, u2, u3, u4, u5] := by
    obtain ⟨l⟩ := cs
    match l, hsz with
    | [u0, u1, u2, u3, u4, u5], _ => exact ⟨u0, u1, u2, u3, u4, u5, rfl⟩
  have g0 := hfd 0 { name := "Kind", type := 3, offset := 0, embedded := false, tag := "", pkgPath := "", byteOffset := 0 } rfl
  have g1 := hfd 1 { name := "Ref", type := 3, offset := 1, embedded := false, tag := "", pkgPath := "", byteOffset := 8 } rfl
  have g2 := hfd 2 { name := "Class", type := 3, offset := 2, embedded := false, tag := "", pkgPath := "", byteOffset := 16 } rfl
  have g3 := hfd 3 { name := "N", type := 3, offset := 3, embedded := false, tag := "", pkgPath := "", byteOffset := 24 } rfl
  have g4 := hfd 4 { name := "Was", type := 35, offset := 4, embedded := false, tag := "", pkgPath := "", byteOffset := 32 } rfl
  have g5 := hfd 5 { name := "Words", type := 30, offset := 5, embedded := false, tag := "", pkgPath := "", byteOffset := 40 } rfl
  have hy6 : ys.length = 6 := hyl
  simp only [c3, c35, c30, Value.cells, List.drop_zero, List.drop_succ_cons, List.take_succ_cons, List.take_zero] at g0 g1 g2 g3 g4 g5
  rw [List.getElem?_eq_getElem (by omega)] at g0
  rw [List.getElem?_eq_getElem (by omega)] at g1
  rw [List.getElem?_eq_getElem (by omega)] at g2
  rw [List.getElem?_eq_getElem (by omega)] at g3
  rw [List.getElem?_eq_getElem (by omega)] at g4
  rw [List.getElem?_eq_getElem (by omega)] at g5
  obtain ⟨z0, e0, _, w0⟩ := DataW.trod_int Try.underlying3 g0
  obtain ⟨z1, e1, _⟩ := DataW.trod_int Try.underlying3 g1
  obtain ⟨z2, e2, _⟩ := DataW.trod_int Try.underlying3 g2
  obtain ⟨z3, e3, _⟩ := DataW.trod_int Try.underlying3 g3
  obtain ⟨z4, e4, _⟩ := DataW.trod_int Try.underlying35 g4
  simp only [List.cons.injEq, and_true] at e0 e1 e2 e3 e4
  have hw : ∃ A n c xs, u5 = .slice A n c ∧ n ≤ c ∧ c ≤ maxLen ∧ Reads W W.heap.size 1 A n (wv xs) := by
    rcases open_ints Try.underlying30 Try.underlying35 c35 g5 with ⟨e6, _⟩ | ⟨b, l6, k6, zs, e6, _, hl6, hm6, hz, _, hcell, hwz⟩
    · injection e6 with e6
      exact ⟨none, 0, 0, [], e6, Nat.le_refl _, Nat.zero_le _, Reads.none_⟩
    · injection e6 with e6
      simp only [if_true] at hz
      refine ⟨some b, l6, k6, zs.take l6, e6, hl6, hm6, ⟨by simp [wv]; omega, fun hn => ⟨b, rfl, ?_, fun j u hu => ?_⟩⟩⟩
      · have := blk_lt (hcell 0 (by omega))
        rw [block_of_add] at this; exact this
      · unfold wv at hu
        rw [List.getElem?_map] at hu
        have hj : j < l6 := by
          rcases Nat.lt_or_ge j l6 with h | h
          · exact h
          · rw [List.getElem?_eq_none (by simp; omega)] at hu; cases hu
        rw [List.getElem?_take, if_pos hj, List.getElem?_eq_getElem (by omega)] at hu
        injection hu with hu
        rw [hcell j (by omega), ← hu, List.getD_eq_getElem?_getD, List.getElem?_eq_getElem (by omega)]; rfl
  obtain ⟨wA, wn, wc, wx, e6, h6, h7, h8⟩ := hw
  subst e0 e1 e2 e3 e4 e6
  exact ⟨z0, z1, z2, z3, z4, wA, wn, wc, wx, rfl, w0, h6, h7, h8⟩
end
end Go.Proofs.Ytndmpdpmfieacaa
