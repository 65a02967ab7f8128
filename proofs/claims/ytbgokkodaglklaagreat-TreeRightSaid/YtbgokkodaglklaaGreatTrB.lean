/-
  The law TreeRight: walked; no condition beyond lengths that fit an int.
-/
import Derived.Test.YtbgokkodaglklaaGreatTrA
import Derived.Test.YtbgokkodaglklaaGreatTR
import Derived.Test.YtbgokkodaglklaaGreatAnyK
import Derived.Deep.Cut
import Derived.Lib.Hide
import Derived.Laws.Rows
namespace Go.Proofs.YtbgokkodaglklaaGreat
open Go.RowKit Go.WideShapes Go.ChangeShapes
set_option linter.all false
set_option maxRecDepth 1000000
/-- The two texts in the box. -/
structure Two (B : Nat) (s t : ByteArray) (w' : World) : Prop where
  one : w'.cell? ⟨B, 1, none⟩ = some (.string s)
  two : w'.cell? ⟨B, 2, none⟩ = some (.string t)
theorem cell_of {w : World} {b : Nat} {cs : Array Value} {T : TypeId} {fr : Nat × Nat} (hb : w.heap[b]? = some (.cells cs T fr)) (j : Nat) : w.cell? ⟨b, j, none⟩ = cs[j]? := by simp [World.cell?, hb]
theorem frozen_of {w : World} {b : Nat} {cs : Array Value} {T : TypeId} (hb : w.heap[b]? = some (.cells cs T (0, 0))) (j : Nat) : w.frozen? ⟨b, j, none⟩ = false := by simp [World.frozen?, hb]
structure Six (k v n : Int) (x y : ByteArray) (z1 z2 z3 z4 z5 : Int) (ob : Bool) : Prop where
  g : ∀ w, Calls Tryz.prog 4 #[.agg #[.int .i64 k, .string x, .string y, .int .i64 v], .int .i64 65536] w (NewR z1 w)
  s : ∀ w, Calls Tryz.prog 5 #[.agg #[.int .i64 k, .string x, .string y, .int .i64 v], .int .i64 65536] w (NewR z2 w)
  p : ∀ w, Calls Tryz.prog 6 #[.agg #[.int .i64 k, .string x, .string y, .int .i64 v], .int .i64 65536, .int .i64 1] w (NewR z3 w)
  d : ∀ w, Calls Tryz.prog 7 #[.agg #[.int .i64 k, .string x, .string y, .int .i64 v], .int .i64 65536, .int .i64 1] w (NewR z4 w)
  t : ∀ w, Calls Tryz.prog 8 #[.agg #[.int .i64 k, .string x, .string y, .int .i64 v], .int .i64 n] w (NewR z5 w)
  r : ∀ w, Calls Tryz.prog 9 #[.agg #[.int .i64 k, .string x, .string y, .int .i64 v], .int .i64 n] w fun e w1 => e = .returned (.bool ob) ∧ Below w.heap.size w w1
def Which (k v n : Int) (x y : ByteArray) : Prop := Six k v n x y 1 1 1 1 1 false ∨ Six k v n x y 0 1 1 1 1 true ∨ Six k v n x y 1 0 1 1 1 true ∨ Six k v n x y 1 1 0 1 1 true ∨ Six k v n x y 1 1 1 0 1 true ∨ Six k v n x y 1 1 1 1 0 true
theorem six_any (k v n : Int) (x y : ByteArray) : Which k v n x y := by
  have nG : ¬ okG k x y v → ∀ w, Calls Tryz.prog 4 #[opV k x y v, .int .i64 65536] w (NewR 1 w) := fun h w => getNew_no k x y v 65536 w h
  have nS : ¬ okS k x y v → ∀ w, Calls Tryz.prog 5 #[opV k x y v, .int .i64 65536] w (NewR 1 w) := fun h w => scanNew_no k x y v 65536 w h
  have nP : ¬ okP k x y v → ∀ w, Calls Tryz.prog 6 #[opV k x y v, .int .i64 65536, .int .i64 1] w (NewR 1 w) := fun h w => putNew_no k x y v 65536 w h
  have nD : ¬ okD k x y v → ∀ w, Calls Tryz.prog 7 #[opV k x y v, .int .i64 65536, .int .i64 1] w (NewR 1 w) := fun h w => dropNew_no k x y v 65536 w h
  have nT : ¬ okT k x y v n → ∀ w, Calls Tryz.prog 8 #[opV k x y v, .int .i64 n] w (NewR 1 w) := fun h w => tickNew_no k x y v n w h
  by_cases k1 : k = 1
  · have a2 : ¬ okS k x y v := fun h => by have := h.1; omega
    have a3 : ¬ okP k x y v := fun h => by have := h.1; omega
    have a4 : ¬ okD k x y v := fun h => by have := h.1; omega
    have a5 : ¬ okT k x y v n := fun h => by have := h.1; omega
    by_cases h : okG k x y v
    · obtain ⟨rfl, h1, h2, rfl⟩ := h
      obtain rfl := toList_nil h2
      exact .inr (.inl ⟨fun w => getNew_ok x h1 w, nS a2, nP a3, nD a4, nT a5, fun w => rget_ok x h1 n w⟩)
    · subst k1
      exact .inl ⟨nG h, nS a2, nP a3, nD a4, nT a5, fun w => rget_no x y v n h w⟩
  by_cases k2 : k = 2
  · have a1 : ¬ okG k x y v := fun h => by have := h.1; omega
    have a2 : ¬ okS k x y v := fun h => by have := h.1; omega
    have a4 : ¬ okD k x y v := fun h => by have := h.1; omega
    have a5 : ¬ okT k x y v n := fun h => by have := h.1; omega
    by_cases h : okP k x y v
    · obtain ⟨rfl, h1, h2, h3, h4⟩ := h
      obtain rfl := toList_nil h4
      exact .inr (.inr (.inr (.inl ⟨nG a1, nS a2, fun w => putNew_ok x v h1 h2 h3 w, nD a4, nT a5, fun w => rput_ok x v h1 h2 h3 n w⟩)))
    · subst k2
      exact .inl ⟨nG a1, nS a2, nP h, nD a4, nT a5, fun w => rput_no x y v n h w⟩
  by_cases k3 : k = 3
  · have a1 : ¬ okG k x y v := fun h => by have := h.1; omega
    have a2 : ¬ okS k x y v := fun h => by have := h.1; omega
    have a3 : ¬ okP k x y v := fun h => by have := h.1; omega
    have a5 : ¬ okT k x y v n := fun h => by have := h.1; omega
    by_cases h : okD k x y v
    · obtain ⟨rfl, h1, rfl, h4⟩ := h
      obtain rfl := toList_nil h4
      exact .inr (.inr (.inr (.inr (.inl ⟨nG a1, nS a2, nP a3, fun w => dropNew_ok x h1 w, nT a5, fun w => rdrop_ok x h1 n w⟩))))
    · subst k3
      exact .inl ⟨nG a1, nS a2, nP a3, nD h, nT a5, fun w => rdrop_no x y v n h w⟩
  by_cases k4 : k = 4
  · have a1 : ¬ okG k x y v := fun h => by have := h.1; omega
    have a3 : ¬ okP k x y v := fun h => by have := h.1; omega
    have a4 : ¬ okD k x y v := fun h => by have := h.1; omega
    have a5 : ¬ okT k x y v n := fun h => by have := h.1; omega
    by_cases h : okS k x y v
    · obtain ⟨rfl, h1, h2, h3, h4⟩ := h
      exact .inr (.inr (.inl ⟨nG a1, fun w => scanNew_ok x y v h1 h2 h3 h4 n w, nP a3, nD a4, nT a5, fun w => rscan_ok x y v h1 h2 h3 h4 n w⟩))
    · subst k4
      exact .inl ⟨nG a1, nS h, nP a3, nD a4, nT a5, fun w => rscan_no x y v n h w⟩
  by_cases k5 : k = 5
  · have a1 : ¬ okG k x y v := fun h => by have := h.1; omega
    have a2 : ¬ okS k x y v := fun h => by have := h.1; omega
    have a3 : ¬ okP k x y v := fun h => by have := h.1; omega
    have a4 : ¬ okD k x y v := fun h => by have := h.1; omega
    by_cases h : okT k x y v n
    · obtain ⟨rfl, h1, h2, rfl, h3, h4⟩ := h
      obtain rfl := toList_nil h1
      obtain rfl := toList_nil h2
      exact .inr (.inr (.inr (.inr (.inr ⟨nG a1, nS a2, nP a3, nD a4, fun w => tickNew_ok n h3 h4 w, fun w => rtick_ok n h3 h4 w⟩))))
    · subst k5
      exact .inl ⟨nG a1, nS a2, nP a3, nD a4, nT h, fun w => rtick_no x y v n h w⟩
  · have a1 : ¬ okG k x y v := fun h => by have := h.1; omega
    have a2 : ¬ okS k x y v := fun h => by have := h.1; omega
    have a3 : ¬ okP k x y v := fun h => by have := h.1; omega
    have a4 : ¬ okD k x y v := fun h => by have := h.1; omega
    have a5 : ¬ okT k x y v n := fun h => by have := h.1; omega
    exact .inl ⟨nG a1, nS a2, nP a3, nD a4, nT a5, fun w => rx_no k x y v n ⟨k1, k2, k3, k4, k5⟩ w⟩
/-- The box with the operation. -/
structure Box4 (w : World) (B : Nat) (k v : Int) (x y : ByteArray) (W : World) : Prop where
  bel : Below w.heap.size w W
  c0 : W.cell? ⟨B, 0, none⟩ = some (.int .i64 k)
  c1 : W.cell? ⟨B, 1, none⟩ = some (.string x)
  c2 : W.cell? ⟨B, 2, none⟩ = some (.string y)
  c3 : W.cell? ⟨B, 3, none⟩ = some (.int .i64 v)
  lt : B < W.heap.size
theorem Box4.on {w W W' : World} {B : Nat} {k v : Int} {x y : ByteArray} (h : Box4 w B k v x y W) (hb : Below W.heap.size W W') : Box4 w B k v x y W' :=
  ⟨h.bel.trans (hb.mono h.bel.size), (hb.cell (p := ⟨B, 0, none⟩) h.lt).trans h.c0, (hb.cell (p := ⟨B, 1, none⟩) h.lt).trans h.c1, (hb.cell (p := ⟨B, 2, none⟩) h.lt).trans h.c2, (hb.cell (p := ⟨B, 3, none⟩) h.lt).trans h.c3, Nat.lt_of_lt_of_le h.lt hb.size⟩
set_option maxHeartbeats 3200000 in
theorem treeRight_any (k v n : Int) (s t : ByteArray) (hs9 : s.size ≤ 9223372036854775807) (ht9 : t.size ≤ 9223372036854775807) (w : World) :
    Calls Tryz.prog 3 #[opV k s t v, .int .i64 n] w fun e w' => e = .returned (.bool true) ∧ Below w.heap.size w w' := by
  unfold opV
  go_enter Tryz.func3, Tryz.ntmps3
  go_upto_region 1 with (fail)
  obtain ⟨W, hW⟩ : ∃ W, W = w.alloc (Obj.cells #[.int .i64 k, .string s, .string t, .int .i64 v] 23) := ⟨_, rfl⟩
  have hWh : W.heap[w.heap.size]? = some (.cells #[.int .i64 k, .string s, .string t, .int .i64 v] 23 (0, 0)) := by rw [hW]; exact heap_alloc_new _ _
  have hWb : Below w.heap.size w W := by rw [hW]; exact (Below.refl _ _).alloc (Nat.le_refl _) _
  rw [← hW]
  obtain ⟨B, hB⟩ : ∃ B, B = w.heap.size := ⟨_, rfl⟩
  rw [← hB] at hWh ⊢
  have HB := Lib.hid hB
  clear hB
  have hc1 := cell_of hWh 1
  have hc2 := cell_of hWh 2
  have hf1 := frozen_of hWh 1
  have hf2 := frozen_of hWh 2
  clear hW
  have hS : (Two B s t) W.drew := ⟨hc1, hc2⟩
  refine wp_region_K (Two B s t) 15 (by kernel_rfl) ?_
  refine wpAnyK_take (i := 0) (oi := _) (v := ?_) (by rfl) (by kernel_rfl) (by intro _ _ _ h; exact h) hS (Or.inl ⟨by rfl, ?_⟩) ?_
  rotate_left 1
  · intro w' hl
    have hl1 := hl.1
    have hl2 := hl.2
    clear hl
    go_simp
    all_goals with_reducible rfl
  simp only [Act.put, List.setIfInBounds_toArray, List.set_cons_zero, List.set_cons_succ]
  refine wpAnyK_take (i := 1) (oi := _) (v := ?_) (by rfl) (by kernel_rfl) (by intro _ _ _ h; exact h) hS (Or.inl ⟨by rfl, ?_⟩) ?_
  rotate_left 1
  · intro w' hl
    have hl1 := hl.1
    have hl2 := hl.2
    clear hl
    go_simp
    all_goals with_reducible rfl
  simp only [Act.put, List.setIfInBounds_toArray, List.set_cons_zero, List.set_cons_succ]
  refine wpAnyK_take (i := 2) (oi := _) (v := ?_) (by rfl) (by kernel_rfl) (by intro _ _ _ h; exact h) hS (Or.inl ⟨by rfl, ?_⟩) ?_
  rotate_left 1
  · intro w' hl
    have hl1 := hl.1
    have hl2 := hl.2
    clear hl
    go_simp
    all_goals with_reducible rfl
  simp only [Act.put, List.setIfInBounds_toArray, List.set_cons_zero, List.set_cons_succ]
  refine wpAnyK_take (i := 3) (oi := _) (v := ?_) (by rfl) (by kernel_rfl) (by intro _ _ _ h; exact h) hS (Or.inl ⟨by rfl, ?_⟩) ?_
  rotate_left 1
  · intro w' hl
    have hl1 := hl.1
    have hl2 := hl.2
    clear hl
    go_simp
    all_goals with_reducible rfl
  simp only [Act.put, List.setIfInBounds_toArray, List.set_cons_zero, List.set_cons_succ]
  refine wpAnyK_take (i := 4) (oi := _) (v := ?_) (by rfl) (by kernel_rfl) (by intro _ _ _ h; exact h) hS (Or.inl ⟨by rfl, ?_⟩) ?_
  rotate_left 1
  · intro w' hl
    have hl1 := hl.1
    have hl2 := hl.2
    clear hl
    go_simp
    all_goals with_reducible rfl
  simp only [Act.put, List.setIfInBounds_toArray, List.set_cons_zero, List.set_cons_succ]
  refine wpAnyK_take (i := 5) (oi := _) (v := ?_) (by rfl) (by kernel_rfl) (by intro _ _ _ h; exact h) hS (Or.inl ⟨by rfl, ?_⟩) ?_
  rotate_left 1
  · intro w' hl
    have hl1 := hl.1
    have hl2 := hl.2
    clear hl
    go_simp
    all_goals with_reducible rfl
  simp only [Act.put, List.setIfInBounds_toArray, List.set_cons_zero, List.set_cons_succ]
  refine wpAnyK_take (i := 6) (oi := _) (v := ?_) (by rfl) (by kernel_rfl) (by intro _ _ _ h; exact h) hS (Or.inl ⟨by rfl, ?_⟩) ?_
  rotate_left 1
  · intro w' hl
    have hl1 := hl.1
    have hl2 := hl.2
    clear hl
    go_simp
    rw [if_pos (by omega)]
    all_goals with_reducible rfl
  simp only [Act.put, List.setIfInBounds_toArray, List.set_cons_zero, List.set_cons_succ]
  refine wpAnyK_take (i := 7) (oi := _) (v := ?_) (by rfl) (by kernel_rfl) (by intro _ _ _ h; exact h) hS (Or.inl ⟨by rfl, ?_⟩) ?_
  rotate_left 1
  · intro w' hl
    have hl1 := hl.1
    have hl2 := hl.2
    clear hl
    go_simp
    all_goals with_reducible rfl
  simp only [Act.put, List.setIfInBounds_toArray, List.set_cons_zero, List.set_cons_succ]
  refine wpAnyK_take (i := 8) (oi := _) (v := ?_) (by rfl) (by kernel_rfl) (by intro _ _ _ h; exact h) hS (Or.inl ⟨by rfl, ?_⟩) ?_
  rotate_left 1
  · intro w' hl
    have hl1 := hl.1
    have hl2 := hl.2
    clear hl
    go_simp
    all_goals with_reducible rfl
  simp only [Act.put, List.setIfInBounds_toArray, List.set_cons_zero, List.set_cons_succ]
  refine wpAnyK_take (i := 9) (oi := _) (v := ?_) (by rfl) (by kernel_rfl) (by intro _ _ _ h; exact h) hS (Or.inl ⟨by rfl, ?_⟩) ?_
  rotate_left 1
  · intro w' hl
    have hl1 := hl.1
    have hl2 := hl.2
    clear hl
    go_simp
    all_goals with_reducible rfl
  simp only [Act.put, List.setIfInBounds_toArray, List.set_cons_zero, List.set_cons_succ]
  refine wpAnyK_take (i := 10) (oi := _) (v := ?_) (by rfl) (by kernel_rfl) (by intro _ _ _ h; exact h) hS (Or.inl ⟨by rfl, ?_⟩) ?_
  rotate_left 1
  · intro w' hl
    have hl1 := hl.1
    have hl2 := hl.2
    clear hl
    go_simp
    all_goals with_reducible rfl
  simp only [Act.put, List.setIfInBounds_toArray, List.set_cons_zero, List.set_cons_succ]
  refine wpAnyK_pure (i := 11) (oi := _) (v := ?_) (by rfl) (by kernel_rfl) (by intro _ _ _ h; exact h) (Or.inl ⟨by rfl, ?_⟩) ?_
  rotate_left 1
  · intro w' _
    go_simp
    all_goals with_reducible rfl
  simp only [Act.put, List.setIfInBounds_toArray, List.set_cons_zero, List.set_cons_succ]
  refine wpAnyK_pure (i := 12) (oi := _) (v := ?_) (by rfl) (by kernel_rfl) (by intro _ _ _ h; exact h) (Or.inl ⟨by rfl, ?_⟩) ?_
  rotate_left 1
  · intro w' _
    go_simp
    all_goals with_reducible rfl
  simp only [Act.put, List.setIfInBounds_toArray, List.set_cons_zero, List.set_cons_succ]
  refine wpAnyK_pure (i := 13) (oi := _) (v := ?_) (by rfl) (by kernel_rfl) (by intro _ _ _ h; exact h) (Or.inl ⟨by rfl, ?_⟩) ?_
  rotate_left 1
  · intro w' _
    go_simp
    rw [if_pos (by omega)]
    all_goals with_reducible rfl
  simp only [Act.put, List.setIfInBounds_toArray, List.set_cons_zero, List.set_cons_succ]
  refine wpAnyK_all (rs := [14]) (by kernel_rfl) (by simp) ?_
  intro ix hix
  simp only [List.mem_cons, List.not_mem_nil, or_false] at hix
  subst hix
  refine wpK_op (o := _) (by rfl) (fun K hK => ?_)
  go_simp
  refine hK _ _ (fun _ h => h) ?_
  clear hK K
  try simp only [Act.put, List.setIfInBounds_toArray, List.set_cons_zero, List.set_cons_succ]
  refine wpAnyK_all (rs := [15]) (by kernel_rfl) (by simp) ?_
  intro ix hix
  simp only [List.mem_cons, List.not_mem_nil, or_false] at hix
  subst hix
  refine wpK_op (o := _) (by rfl) (fun K hK => ?_)
  go_simp
  refine hK _ _ (fun h => absurd h (by omega)) ?_
  clear hK K
  try simp only [Act.put, List.setIfInBounds_toArray, List.set_cons_zero, List.set_cons_succ]
  refine wpAnyK_all (rs := [16]) (by kernel_rfl) (by simp) ?_
  intro ix hix
  simp only [List.mem_cons, List.not_mem_nil, or_false] at hix
  subst hix
  refine wpK_op (o := _) (by rfl) (fun K hK => ?_)
  go_simp
  refine hK _ _ (fun h => absurd h (by omega)) ?_
  clear hK K
  try simp only [Act.put, List.setIfInBounds_toArray, List.set_cons_zero, List.set_cons_succ]
  refine wpAnyK_all (rs := [17]) (by kernel_rfl) (by simp) ?_
  intro ix hix
  simp only [List.mem_cons, List.not_mem_nil, or_false] at hix
  subst hix
  refine wpK_op (o := _) (by rfl) (fun K hK => ?_)
  go_simp
  refine hK _ _ (fun h => absurd h (by omega)) ?_
  clear hK K
  try simp only [Act.put, List.setIfInBounds_toArray, List.set_cons_zero, List.set_cons_succ]
  refine wpAnyK_done (by kernel_rfl) ?_ _
  obtain ⟨x, hx⟩ : ∃ x, x = s.extract 0 (min (s.size : Int) 30).toNat := ⟨_, rfl⟩
  obtain ⟨y, hy⟩ : ∃ y, y = t.extract 0 (min (t.size : Int) 30).toNat := ⟨_, rfl⟩
  rw [← hx, ← hy]
  clear hx hy
  have hlt : B < W.heap.size := World.block_lt_of_cell? W _ hc1
  have hge : w.heap.size ≤ B := Nat.le_of_eq HB.out.symm
  obtain ⟨W9, hW9⟩ : ∃ W9, W9 = (W.setCell ⟨B, 1, none⟩ (.string x)).setCell ⟨B, 2, none⟩ (.string y) := ⟨_, rfl⟩
  have HX : Hid (Box4 w B k v x y W9) := Lib.hid (by
    rw [hW9]
    refine ⟨(hWb.setCell hge _).setCell hge _, ?_, ?_, ?_, ?_, by simpa using hlt⟩
    · exact (World.cell?_setCell_other _ _ _ _ (by simp)).trans ((World.cell?_setCell_other _ _ _ _ (by simp)).trans (cell_of hWh 0))
    · exact (World.cell?_setCell_other _ _ _ _ (by simp)).trans (World.cell?_setCell_same _ _ _ hc1)
    · exact World.cell?_setCell_same _ _ _ ((World.cell?_setCell_other _ _ _ _ (by simp)).trans hc2)
    · exact (World.cell?_setCell_other _ _ _ _ (by simp)).trans ((World.cell?_setCell_other _ _ _ _ (by simp)).trans (cell_of hWh 3)))
  rw [← hW9]
  clear hW9 hS hf1 hf2 hc1 hc2 hlt hge hWh hWb HB
  have HX := Lib.hid (HX.out.on ((Below.refl _ _).drew : Below W9.heap.size W9 W9.drew))
  obtain ⟨V, hV⟩ : ∃ V, V = W9.drew := ⟨_, rfl⟩
  rw [← hV] at HX ⊢
  clear hV
  have c0 := HX.out.c0
  have c1 := HX.out.c1
  have c2 := HX.out.c2
  have c3 := HX.out.c3
  rcases six_any k v n x y with h6 | h6 | h6 | h6 | h6 | h6
  all_goals
    have H6 := h6
    clear h6
    go_wp2_with (first
      | (go_at_call 4; refine (H6.g _).mono ?_; rintro e w1 ⟨q1, rfl, hb, -⟩
         have HX := Lib.hid (HX.out.on hb)
         have c0 := HX.out.c0
         have c1 := HX.out.c1
         have c2 := HX.out.c2
         have c3 := HX.out.c3
         clear hb)
      | (go_at_call 5; refine (H6.s _).mono ?_; rintro e w2 ⟨q2, rfl, hb, -⟩
         have HX := Lib.hid (HX.out.on hb)
         have c0 := HX.out.c0
         have c1 := HX.out.c1
         have c2 := HX.out.c2
         have c3 := HX.out.c3
         clear hb)
      | (go_at_call 6; refine (H6.p _).mono ?_; rintro e w3 ⟨q3, rfl, hb, -⟩
         have HX := Lib.hid (HX.out.on hb)
         have c0 := HX.out.c0
         have c1 := HX.out.c1
         have c2 := HX.out.c2
         have c3 := HX.out.c3
         clear hb)
      | (go_at_call 7; refine (H6.d _).mono ?_; rintro e w4 ⟨q4, rfl, hb, -⟩
         have HX := Lib.hid (HX.out.on hb)
         have c0 := HX.out.c0
         have c1 := HX.out.c1
         have c2 := HX.out.c2
         have c3 := HX.out.c3
         clear hb)
      | (go_at_call 8; refine (H6.t _).mono ?_; rintro e w5 ⟨q5, rfl, hb, -⟩
         have HX := Lib.hid (HX.out.on hb)
         have c0 := HX.out.c0
         have c1 := HX.out.c1
         have c2 := HX.out.c2
         have c3 := HX.out.c3
         clear hb)
      | (go_at_call 9; refine (H6.r _).mono ?_; rintro e w6 ⟨rfl, hb⟩
         have HX := Lib.hid (HX.out.on hb)
         clear hb)
      | (go_at_call 10; refine (treeRuns_any _).mono ?_; rintro e w7 ⟨rfl, hb⟩
         have HX := Lib.hid (HX.out.on hb)
         clear hb)
      | fail)
    go_ret
    exact ⟨rfl, HX.out.bel⟩
end Go.Proofs.YtbgokkodaglklaaGreat
