/-
  The closure that makes an event of a number; conditions: what it holds.
-/
import Derived.Test.YtedjimkpmmacoaaGreatDoorSch
import Derived.Test.YtedjimkpmmacoaaGreatDoorSci
import Derived.Test.YtedjimkpmmacoaaGreatDoorAnyK
namespace Go.Proofs.YtedjimkpmmacoaaGreatDoor
open Go.RowKit Go.WideShapes Go.ChangeShapes
set_option linter.all false
theorem within_any (n h : Int) (h0 : 0 ≤ h) (h9 : h ≤ 1099511627776) (w : World) :
    Calls Tryz.prog 16 #[.int .i64 n, .int .i64 0, .int .i64 h] w fun e w' => e = .returned (.int .i64 (withinV n (h + 1))) ∧ w = w' := by
  have h1 : -(h + 1) < n.tmod (h + 1) := Int.lt_tmod_of_pos n (by omega)
  have h2 : n.tmod (h + 1) < h + 1 := Int.tmod_lt_of_pos n (by omega)
  have h3 : ¬ (h + 1 = 0) := by omega
  go_enter Tryz.func16, Tryz.ntmps16
  go_wp2
  all_goals go_ret
  all_goals refine ⟨?_, rfl⟩
  all_goals simp only [withinV]
  all_goals first
    | (rw [if_pos (by omega)]; simp; omega)
    | (rw [if_neg (by omega)]; simp)
    | (rw [if_neg (by omega)]; simp; omega)
theorem set10 {W : World} {b : Nat} {t : TypeId} {a0 a1 a2 a3 a4 a5 a6 a7 a8 a9 : Value} (h : W.heap[b]? = some (.cells #[a0, a1, a2, a3, a4, a5, a6, a7, a8, a9] t (0, 0))) (x0 x1 x2 x3 x4 x5 x6 x7 x8 x9 : Value) : ((((((((((W.setCell ⟨b, 0, none⟩ x0).setCell ⟨b, 1, none⟩ x1).setCell ⟨b, 2, none⟩ x2).setCell ⟨b, 3, none⟩ x3).setCell ⟨b, 4, none⟩ x4).setCell ⟨b, 5, none⟩ x5).setCell ⟨b, 6, none⟩ x6).setCell ⟨b, 7, none⟩ x7).setCell ⟨b, 8, none⟩ x8).setCell ⟨b, 9, none⟩ x9).heap[b]? = some (.cells #[x0, x1, x2, x3, x4, x5, x6, x7, x8, x9] t (0, 0)) := by
  have s1 : (W.setCell ⟨b, 0, none⟩ x0).heap[b]? = some (.cells #[x0, a1, a2, a3, a4, a5, a6, a7, a8, a9] t (0, 0)) := (heap_setCell_same _ b 0 _ t x0 h).trans rfl
  have s2 : ((W.setCell ⟨b, 0, none⟩ x0).setCell ⟨b, 1, none⟩ x1).heap[b]? = some (.cells #[x0, x1, a2, a3, a4, a5, a6, a7, a8, a9] t (0, 0)) := (heap_setCell_same _ b 1 _ t x1 s1).trans rfl
  have s3 : (((W.setCell ⟨b, 0, none⟩ x0).setCell ⟨b, 1, none⟩ x1).setCell ⟨b, 2, none⟩ x2).heap[b]? = some (.cells #[x0, x1, x2, a3, a4, a5, a6, a7, a8, a9] t (0, 0)) := (heap_setCell_same _ b 2 _ t x2 s2).trans rfl
  have s4 : ((((W.setCell ⟨b, 0, none⟩ x0).setCell ⟨b, 1, none⟩ x1).setCell ⟨b, 2, none⟩ x2).setCell ⟨b, 3, none⟩ x3).heap[b]? = some (.cells #[x0, x1, x2, x3, a4, a5, a6, a7, a8, a9] t (0, 0)) := (heap_setCell_same _ b 3 _ t x3 s3).trans rfl
  have s5 : (((((W.setCell ⟨b, 0, none⟩ x0).setCell ⟨b, 1, none⟩ x1).setCell ⟨b, 2, none⟩ x2).setCell ⟨b, 3, none⟩ x3).setCell ⟨b, 4, none⟩ x4).heap[b]? = some (.cells #[x0, x1, x2, x3, x4, a5, a6, a7, a8, a9] t (0, 0)) := (heap_setCell_same _ b 4 _ t x4 s4).trans rfl
  have s6 : ((((((W.setCell ⟨b, 0, none⟩ x0).setCell ⟨b, 1, none⟩ x1).setCell ⟨b, 2, none⟩ x2).setCell ⟨b, 3, none⟩ x3).setCell ⟨b, 4, none⟩ x4).setCell ⟨b, 5, none⟩ x5).heap[b]? = some (.cells #[x0, x1, x2, x3, x4, x5, a6, a7, a8, a9] t (0, 0)) := (heap_setCell_same _ b 5 _ t x5 s5).trans rfl
  have s7 : (((((((W.setCell ⟨b, 0, none⟩ x0).setCell ⟨b, 1, none⟩ x1).setCell ⟨b, 2, none⟩ x2).setCell ⟨b, 3, none⟩ x3).setCell ⟨b, 4, none⟩ x4).setCell ⟨b, 5, none⟩ x5).setCell ⟨b, 6, none⟩ x6).heap[b]? = some (.cells #[x0, x1, x2, x3, x4, x5, x6, a7, a8, a9] t (0, 0)) := (heap_setCell_same _ b 6 _ t x6 s6).trans rfl
  have s8 : ((((((((W.setCell ⟨b, 0, none⟩ x0).setCell ⟨b, 1, none⟩ x1).setCell ⟨b, 2, none⟩ x2).setCell ⟨b, 3, none⟩ x3).setCell ⟨b, 4, none⟩ x4).setCell ⟨b, 5, none⟩ x5).setCell ⟨b, 6, none⟩ x6).setCell ⟨b, 7, none⟩ x7).heap[b]? = some (.cells #[x0, x1, x2, x3, x4, x5, x6, x7, a8, a9] t (0, 0)) := (heap_setCell_same _ b 7 _ t x7 s7).trans rfl
  have s9 : (((((((((W.setCell ⟨b, 0, none⟩ x0).setCell ⟨b, 1, none⟩ x1).setCell ⟨b, 2, none⟩ x2).setCell ⟨b, 3, none⟩ x3).setCell ⟨b, 4, none⟩ x4).setCell ⟨b, 5, none⟩ x5).setCell ⟨b, 6, none⟩ x6).setCell ⟨b, 7, none⟩ x7).setCell ⟨b, 8, none⟩ x8).heap[b]? = some (.cells #[x0, x1, x2, x3, x4, x5, x6, x7, x8, a9] t (0, 0)) := (heap_setCell_same _ b 8 _ t x8 s8).trans rfl
  have s10 : ((((((((((W.setCell ⟨b, 0, none⟩ x0).setCell ⟨b, 1, none⟩ x1).setCell ⟨b, 2, none⟩ x2).setCell ⟨b, 3, none⟩ x3).setCell ⟨b, 4, none⟩ x4).setCell ⟨b, 5, none⟩ x5).setCell ⟨b, 6, none⟩ x6).setCell ⟨b, 7, none⟩ x7).setCell ⟨b, 8, none⟩ x8).setCell ⟨b, 9, none⟩ x9).heap[b]? = some (.cells #[x0, x1, x2, x3, x4, x5, x6, x7, x8, x9] t (0, 0)) := (heap_setCell_same _ b 9 _ t x9 s9).trans rfl
  exact s10
def Two2 (a b : Nat) (u v : Value) (W : World) : Prop := W.cell? ⟨a, 0, none⟩ = some u ∧ W.cell? ⟨b, 0, none⟩ = some v
/-- The event that is made of the number k. -/
def evV (c kk v : Nat) (t : ByteArray) : Value := .agg #[.int .i64 1, .int .i64 (c : Nat), .int .i64 (1 + kk : Nat), .string t, .string ⟨#[]⟩, .int .i64 (v : Nat), .int .i64 0, .bool false, .int .i64 0, .slice none 0 0]
set_option maxRecDepth 1000000 in
set_option maxHeartbeats 1600000 in
theorem op_any (k : Int) (kk : Nat) (hk : withinV k 5 = kk) (hk5 : kk < 5) (t : ByteArray) (v c : Nat) (b13 b12 b11 : Nat) (w : World) (h13 : w.heap[b13]? = some (.cells #[.string t] 9 (0, 0))) (h12 : w.heap[b12]? = some (.cells #[.int .i64 (v : Nat)] 3 (0, 0))) (h11 : w.heap[b11]? = some (.cells #[.int .i64 (c : Nat)] 3 (0, 0))) :
    Calls Tryz.prog 17 #[.int .i64 k, .pointer (some ⟨b13, 0, none⟩), .pointer (some ⟨b12, 0, none⟩), .pointer (some ⟨b11, 0, none⟩)] w fun e w' => e = .returned (evV c kk v t) ∧ Below w.heap.size w w' := by
  have HWI : Hid (∀ W, Calls Tryz.prog 16 #[.int .i64 k, .int .i64 0, .int .i64 4] W fun e w' => e = .returned (.int .i64 (kk : Nat)) ∧ W = w') := Lib.hid (fun W => by
    have := within_any k 4 (by omega) (by omega) W
    rw [show ((4 : Int) + 1) = 5 from rfl, hk] at this
    exact this)
  obtain ⟨Wa, hWa⟩ : ∃ Wa : World, Wa = w.alloc (.cells #[.int .i64 0, .int .i64 0, .int .i64 0, .string ⟨#[]⟩, .string ⟨#[]⟩, .int .i64 0, .int .i64 0, .bool false, .int .i64 0, .slice none 0 0] 55) := ⟨_, rfl⟩
  have ba : Below w.heap.size w Wa := by rw [hWa]; exact (Below.refl _ _).alloc (Nat.le_refl _) _
  have hp0 : Wa.heap[w.heap.size]? = some (.cells #[.int .i64 0, .int .i64 0, .int .i64 0, .string ⟨#[]⟩, .string ⟨#[]⟩, .int .i64 0, .int .i64 0, .bool false, .int .i64 0, .slice none 0 0] 55 (0, 0)) := by rw [hWa]; exact heap_alloc_new w _
  obtain ⟨p, hp⟩ : ∃ p, p = w.heap.size := ⟨_, rfl⟩
  rw [← hp] at hp0
  have lt : ∀ {b : Nat} {o : Obj}, w.heap[b]? = some o → b < w.heap.size := fun {b} {o} h => by
    rcases Nat.lt_or_ge b w.heap.size with h' | h'
    · exact h'
    · rw [Array.getElem?_eq_none h'] at h; cases h
  have l13 := lt h13
  have l12 := lt h12
  have l11 := lt h11
  have g13 := (ba.block b13 l13).trans h13
  have g12 := (ba.block b12 l12).trans h12
  have g11 := (ba.block b11 l11).trans h11
  obtain ⟨Wd, hWd⟩ : ∃ Wd : World, Wd = Wa.drew := ⟨_, rfl⟩
  have bd : Below w.heap.size w Wd := by rw [hWd]; exact ba.drew
  have hd : ∀ x : Nat, Wd.heap[x]? = Wa.heap[x]? := fun x => by rw [hWd]; rfl
  have hsz : Wd.heap.size = Wa.heap.size := by rw [hWd]; rfl
  obtain ⟨Wb, hWb⟩ : ∃ Wb : World, Wb = Wd.alloc (.cells #[.int .i64 0, .string ⟨#[]⟩, .string ⟨#[]⟩, .int .i64 0] 35) := ⟨_, rfl⟩
  obtain ⟨q, hq⟩ : ∃ q, q = Wd.heap.size := ⟨_, rfl⟩
  have bb : Below w.heap.size w Wb := by rw [hWb]; exact bd.alloc bd.size _
  have bs : Below Wd.heap.size Wd Wb := by rw [hWb]; exact (Below.refl _ _).alloc (Nat.le_refl _) _
  have hq0 : Wb.heap[q]? = some (.cells #[.int .i64 0, .string ⟨#[]⟩, .string ⟨#[]⟩, .int .i64 0] 35 (0, 0)) := by rw [hWb, hq]; exact heap_alloc_new Wd _
  have hpa : p < Wa.heap.size := by rw [hp, hWa]; simp
  have hpq : p < q := by rw [hq, hsz]; exact hpa
  have hs := ba.size
  have HP0 : Hid (Wb.heap[p]? = some (.cells #[.int .i64 0, .int .i64 0, .int .i64 0, .string ⟨#[]⟩, .string ⟨#[]⟩, .int .i64 0, .int .i64 0, .bool false, .int .i64 0, .slice none 0 0] 55 (0, 0))) := Lib.hid ((bs.block p (by omega)).trans ((hd p).trans hp0))
  have H11 : Hid (Wb.heap[b11]? = some (.cells #[.int .i64 (c : Nat)] 3 (0, 0))) := Lib.hid ((bs.block b11 (by omega)).trans ((hd b11).trans g11))
  have HB := Lib.hid bb
  have HQ0 := Lib.hid hq0
  have HPQ := Lib.hid hpq
  have HL : Hid (w.heap.size ≤ q ∧ b11 < q ∧ w.heap.size ≤ p) := Lib.hid ⟨by omega, by omega, by omega⟩
  have hS0 : Two2 b13 b12 (.string t) (.int .i64 (v : Nat)) Wd := ⟨cell_of_row Wd b13 0 _ 9 (0, 0) ((hd b13).trans g13), cell_of_row Wd b12 0 _ 3 (0, 0) ((hd b12).trans g12)⟩
  have hS1 : Two2 b13 b12 (.string t) (.int .i64 (v : Nat)) Wb := ⟨cell_of_row Wb b13 0 _ 9 (0, 0) ((bs.block b13 (by omega)).trans ((hd b13).trans g13)), cell_of_row Wb b12 0 _ 3 (0, 0) ((bs.block b12 (by omega)).trans ((hd b12).trans g12))⟩
  clear h13 h12 h11 l13 l12 l11 g13 g12 g11 lt ba bd bb bs hp0 hq0 hpa hpq hs hd hsz hk
  obtain ⟨kn, hkn⟩ : ∃ kn, kn = 1 + kk := ⟨_, rfl⟩
  have hwk : IntKind.i64.wrap (1 + (kk : Int)) = (kn : Nat) := by rw [hkn, IntWalk.i64_in _ (by omega)]; omega
  unfold evV
  rw [← hkn]
  clear hkn
  go_enter Tryz.func17, Tryz.ntmps17
  go_upto_region 1 with (fail)
  rw [← hWa, ← hp]
  refine wp_region_K (Two2 b13 b12 (.string t) (.int .i64 (v : Nat))) 7 (by kernel_rfl) ?_
  rw [← hWd]
  have HWB := Lib.hid hWb
  have HQE := Lib.hid hq
  clear hWa hWd hp hWb hq
  refine wpAnyK_pure (i := 0) (oi := _) (v := ?_) (by rfl) (by kernel_rfl) (by intro _ _ _ h; exact h) (Or.inl ⟨by rfl, ?_⟩) ?_
  rotate_left 1
  · intro w' _
    go_simp
    all_goals with_reducible rfl
  simp only [Act.put, List.getElem_toArray, List.getElem_cons_zero, List.getElem_cons_succ, List.setIfInBounds_toArray, List.set_cons_zero, List.set_cons_succ]
  refine wpAnyK_take (i := 3) (oi := _) (v := ?_) (by rfl) (by kernel_rfl) (by intro _ _ _ h; exact h) hS0 (Or.inl ⟨by rfl, ?_⟩) ?_
  rotate_left 1
  · intro w' hl
    have hl1 := hl.1
    have hl2 := hl.2
    clear hl
    go_simp
    all_goals with_reducible rfl
  simp only [Act.put, List.getElem_toArray, List.getElem_cons_zero, List.getElem_cons_succ, List.setIfInBounds_toArray, List.set_cons_zero, List.set_cons_succ]
  refine wpAnyK_take (i := 4) (oi := _) (v := ?_) (by rfl) (by kernel_rfl) (by intro _ _ _ h; exact h) hS0 (Or.inl ⟨by rfl, ?_⟩) ?_
  rotate_left 1
  · intro w' hl
    have hl1 := hl.1
    have hl2 := hl.2
    clear hl
    go_simp
    all_goals with_reducible rfl
  simp only [Act.put, List.getElem_toArray, List.getElem_cons_zero, List.getElem_cons_succ, List.setIfInBounds_toArray, List.set_cons_zero, List.set_cons_succ]
  refine wpAnyK_all (rs := [1, 6]) (by kernel_rfl) (by simp) ?_
  intro ix hix
  simp only [List.mem_cons, List.not_mem_nil, or_false] at hix
  rcases hix with rfl | rfl
  · refine wpK_op (o := _) (by rfl) (fun K9 hK9 => ?_)
    go_simp
    go_at_call 16
    refine (HWI.out _).mono ?_
    rintro e w9 ⟨rfl, hh⟩
    subst w9
    refine hK9 _ _ (fun _ h => h) ?_
    clear hK9 K9
    try simp only [Act.put, List.getElem_toArray, List.getElem_cons_zero, List.getElem_cons_succ, List.setIfInBounds_toArray, List.set_cons_zero, List.set_cons_succ]
    refine wpAnyK_pure (i := 2) (oi := _) (v := ?_) (by rfl) (by kernel_rfl) (by intro _ _ _ h; exact h) (Or.inl ⟨by rfl, ?_⟩) ?_
    rotate_left 1
    · intro w' _
      go_simp
      all_goals with_reducible rfl
    simp only [Act.put, List.getElem_toArray, List.getElem_cons_zero, List.getElem_cons_succ, List.setIfInBounds_toArray, List.set_cons_zero, List.set_cons_succ]
    refine wpAnyK_pure (i := 5) (oi := _) (v := ?_) (by rfl) (by kernel_rfl) (by intro _ _ _ h; exact h) (Or.inl ⟨by rfl, ?_⟩) ?_
    rotate_left 1
    · intro w' _
      go_simp
      all_goals with_reducible rfl
    simp only [Act.put, List.getElem_toArray, List.getElem_cons_zero, List.getElem_cons_succ, List.setIfInBounds_toArray, List.set_cons_zero, List.set_cons_succ]
    refine wpAnyK_all (rs := [6]) (by kernel_rfl) (by simp) ?_
    intro ix hix
    simp only [List.mem_cons, List.not_mem_nil, or_false] at hix
    subst hix
    refine wpK_op (o := _) (by rfl) (fun K9 hK9 => ?_)
    go_simp
    refine hK9 _ _ (fun _ _ => by rw [← HWB.out]; exact hS1) ?_
    clear hK9 K9
    try simp only [Act.put, List.getElem_toArray, List.getElem_cons_zero, List.getElem_cons_succ, List.setIfInBounds_toArray, List.set_cons_zero, List.set_cons_succ]
    rw [← HWB.out, ← HQE.out]
    refine wpAnyK_all (rs := [7]) (by kernel_rfl) (by simp) ?_
    intro ix hix
    simp only [List.mem_cons, List.not_mem_nil, or_false] at hix
    subst hix
    refine wpK_op (o := _) (by rfl) (fun K9 hK9 => ?_)
    have u0 : Wb.cell? ⟨q, 0, none⟩ = _ := cell_of_row Wb q 0 _ 35 (0, 0) HQ0.out
    have g0 : Wb.frozen? ⟨q, 0, none⟩ = false := by simp [World.frozen?, HQ0.out]
    have u1 : Wb.cell? ⟨q, 1, none⟩ = _ := cell_of_row Wb q 1 _ 35 (0, 0) HQ0.out
    have g1 : Wb.frozen? ⟨q, 1, none⟩ = false := by simp [World.frozen?, HQ0.out]
    have u2 : Wb.cell? ⟨q, 2, none⟩ = _ := cell_of_row Wb q 2 _ 35 (0, 0) HQ0.out
    have g2 : Wb.frozen? ⟨q, 2, none⟩ = false := by simp [World.frozen?, HQ0.out]
    have u3 : Wb.cell? ⟨q, 3, none⟩ = _ := cell_of_row Wb q 3 _ 35 (0, 0) HQ0.out
    have g3 : Wb.frozen? ⟨q, 3, none⟩ = false := by simp [World.frozen?, HQ0.out]
    simp only [List.getElem?_toArray, List.getElem?_cons_zero, List.getElem?_cons_succ] at u0 u1 u2 u3
    go_simp
    clear u0 u1 u2 u3 g0 g1 g2 g3
    refine hK9 _ _ (fun h => absurd h (by omega)) ?_
    clear hK9 K9
    try simp only [Act.put, List.getElem_toArray, List.getElem_cons_zero, List.getElem_cons_succ, List.setIfInBounds_toArray, List.set_cons_zero, List.set_cons_succ]
    refine wpAnyK_done (by kernel_rfl) ?_ _
    obtain ⟨Wc, hWc⟩ : ∃ Wc : World, Wc = (((Wb.setCell ⟨q, 0, none⟩ (.int .i64 (kn : Nat))).setCell ⟨q, 1, none⟩ (.string t)).setCell ⟨q, 2, none⟩ (.string ⟨#[]⟩)).setCell ⟨q, 3, none⟩ (.int .i64 (v : Nat)) := ⟨_, rfl⟩
    rw [← hWc]
    have hq4 : Wc.heap[q]? = some (.cells #[.int .i64 (kn : Nat), .string t, .string ⟨#[]⟩, .int .i64 (v : Nat)] 35 (0, 0)) := by rw [hWc]; exact (heap_setCell_same _ q 3 _ 35 _ (heap_setCell_same _ q 2 _ 35 _ (heap_setCell_same _ q 1 _ 35 _ (heap_setCell_same Wb q 0 _ 35 _ HQ0.out)))).trans rfl
    have hfar : ∀ x : Nat, x ≠ q → Wc.heap[x]? = Wb.heap[x]? := fun x hx => by rw [hWc]; exact (Below.heap_setCell _ _ _ x hx).trans ((Below.heap_setCell _ _ _ x hx).trans ((Below.heap_setCell _ _ _ x hx).trans (Below.heap_setCell _ _ _ x hx)))
    have hpc : Wc.heap[p]? = some (.cells #[.int .i64 0, .int .i64 0, .int .i64 0, .string ⟨#[]⟩, .string ⟨#[]⟩, .int .i64 0, .int .i64 0, .bool false, .int .i64 0, .slice none 0 0] 55 (0, 0)) := (hfar p (by have := HPQ.out; omega)).trans HP0.out
    have h11c : Wc.heap[b11]? = some (.cells #[.int .i64 (c : Nat)] 3 (0, 0)) := (hfar b11 (by have := HL.out.2.1; omega)).trans H11.out
    have hbc : Below w.heap.size w Wc := by rw [hWc]; exact (((HB.out.setCell (p := ⟨q, 0, none⟩) HL.out.1 _).setCell (p := ⟨q, 1, none⟩) HL.out.1 _).setCell (p := ⟨q, 2, none⟩) HL.out.1 _).setCell (p := ⟨q, 3, none⟩) HL.out.1 _
    have HBC := Lib.hid hbc
    have hpw : w.heap.size ≤ p := HL.out.2.2
    have x0 : Wc.cell? ⟨q, 0, none⟩ = _ := cell_of_row Wc q 0 _ 35 (0, 0) hq4
    have x1 : Wc.cell? ⟨q, 1, none⟩ = _ := cell_of_row Wc q 1 _ 35 (0, 0) hq4
    have x2 : Wc.cell? ⟨q, 2, none⟩ = _ := cell_of_row Wc q 2 _ 35 (0, 0) hq4
    have x3 : Wc.cell? ⟨q, 3, none⟩ = _ := cell_of_row Wc q 3 _ 35 (0, 0) hq4
    have y0 : Wc.cell? ⟨b11, 0, none⟩ = _ := cell_of_row Wc b11 0 _ 3 (0, 0) h11c
    simp only [List.getElem?_toArray, List.getElem?_cons_zero, List.getElem?_cons_succ] at x0 x1 x2 x3 y0
    have z0 : Wc.cell? ⟨p, 0, none⟩ = _ := cell_of_row Wc p 0 _ 55 (0, 0) hpc
    have f0 : Wc.frozen? ⟨p, 0, none⟩ = false := by simp [World.frozen?, hpc]
    have z1 : Wc.cell? ⟨p, 1, none⟩ = _ := cell_of_row Wc p 1 _ 55 (0, 0) hpc
    have f1 : Wc.frozen? ⟨p, 1, none⟩ = false := by simp [World.frozen?, hpc]
    have z2 : Wc.cell? ⟨p, 2, none⟩ = _ := cell_of_row Wc p 2 _ 55 (0, 0) hpc
    have f2 : Wc.frozen? ⟨p, 2, none⟩ = false := by simp [World.frozen?, hpc]
    have z3 : Wc.cell? ⟨p, 3, none⟩ = _ := cell_of_row Wc p 3 _ 55 (0, 0) hpc
    have f3 : Wc.frozen? ⟨p, 3, none⟩ = false := by simp [World.frozen?, hpc]
    have z4 : Wc.cell? ⟨p, 4, none⟩ = _ := cell_of_row Wc p 4 _ 55 (0, 0) hpc
    have f4 : Wc.frozen? ⟨p, 4, none⟩ = false := by simp [World.frozen?, hpc]
    have z5 : Wc.cell? ⟨p, 5, none⟩ = _ := cell_of_row Wc p 5 _ 55 (0, 0) hpc
    have f5 : Wc.frozen? ⟨p, 5, none⟩ = false := by simp [World.frozen?, hpc]
    have z6 : Wc.cell? ⟨p, 6, none⟩ = _ := cell_of_row Wc p 6 _ 55 (0, 0) hpc
    have f6 : Wc.frozen? ⟨p, 6, none⟩ = false := by simp [World.frozen?, hpc]
    have z7 : Wc.cell? ⟨p, 7, none⟩ = _ := cell_of_row Wc p 7 _ 55 (0, 0) hpc
    have f7 : Wc.frozen? ⟨p, 7, none⟩ = false := by simp [World.frozen?, hpc]
    have z8 : Wc.cell? ⟨p, 8, none⟩ = _ := cell_of_row Wc p 8 _ 55 (0, 0) hpc
    have f8 : Wc.frozen? ⟨p, 8, none⟩ = false := by simp [World.frozen?, hpc]
    have z9 : Wc.cell? ⟨p, 9, none⟩ = _ := cell_of_row Wc p 9 _ 55 (0, 0) hpc
    have f9 : Wc.frozen? ⟨p, 9, none⟩ = false := by simp [World.frozen?, hpc]
    simp only [List.getElem?_toArray, List.getElem?_cons_zero, List.getElem?_cons_succ] at z0 z1 z2 z3 z4 z5 z6 z7 z8 z9
    have HPC := Lib.hid hpc
    have HPW := Lib.hid hpw
    clear hWc hq4 hfar hpc h11c hbc hpw
    go_wp2
    have hh : ((((((((((Wc.setCell ⟨p, 0, none⟩ (.int .i64 1)).setCell ⟨p, 1, none⟩ (.int .i64 (c : Nat))).setCell ⟨p, 2, none⟩ (.int .i64 (kn : Nat))).setCell ⟨p, 3, none⟩ (.string t)).setCell ⟨p, 4, none⟩ (.string ⟨#[]⟩)).setCell ⟨p, 5, none⟩ (.int .i64 (v : Nat))).setCell ⟨p, 6, none⟩ (.int .i64 0)).setCell ⟨p, 7, none⟩ (.bool false)).setCell ⟨p, 8, none⟩ (.int .i64 0)).setCell ⟨p, 9, none⟩ (.slice none 0 0)).heap[p]? = some (.cells #[.int .i64 1, .int .i64 (c : Nat), .int .i64 (kn : Nat), .string t, .string ⟨#[]⟩, .int .i64 (v : Nat), .int .i64 0, .bool false, .int .i64 0, .slice none 0 0] 55 (0, 0)) := set10 HPC.out (.int .i64 1) (.int .i64 (c : Nat)) (.int .i64 (kn : Nat)) (.string t) (.string ⟨#[]⟩) (.int .i64 (v : Nat)) (.int .i64 0) (.bool false) (.int .i64 0) (.slice none 0 0)
    have hb5 : Below w.heap.size w ((((((((((Wc.setCell ⟨p, 0, none⟩ (.int .i64 1)).setCell ⟨p, 1, none⟩ (.int .i64 (c : Nat))).setCell ⟨p, 2, none⟩ (.int .i64 (kn : Nat))).setCell ⟨p, 3, none⟩ (.string t)).setCell ⟨p, 4, none⟩ (.string ⟨#[]⟩)).setCell ⟨p, 5, none⟩ (.int .i64 (v : Nat))).setCell ⟨p, 6, none⟩ (.int .i64 0)).setCell ⟨p, 7, none⟩ (.bool false)).setCell ⟨p, 8, none⟩ (.int .i64 0)).setCell ⟨p, 9, none⟩ (.slice none 0 0)) := ((((((((((HBC.out.setCell (p := ⟨p, 0, none⟩) HPW.out _).setCell (p := ⟨p, 1, none⟩) HPW.out _).setCell (p := ⟨p, 2, none⟩) HPW.out _).setCell (p := ⟨p, 3, none⟩) HPW.out _).setCell (p := ⟨p, 4, none⟩) HPW.out _).setCell (p := ⟨p, 5, none⟩) HPW.out _).setCell (p := ⟨p, 6, none⟩) HPW.out _).setCell (p := ⟨p, 7, none⟩) HPW.out _).setCell (p := ⟨p, 8, none⟩) HPW.out _).setCell (p := ⟨p, 9, none⟩) HPW.out _)
    generalize ((((((((((Wc.setCell ⟨p, 0, none⟩ (.int .i64 1)).setCell ⟨p, 1, none⟩ (.int .i64 (c : Nat))).setCell ⟨p, 2, none⟩ (.int .i64 (kn : Nat))).setCell ⟨p, 3, none⟩ (.string t)).setCell ⟨p, 4, none⟩ (.string ⟨#[]⟩)).setCell ⟨p, 5, none⟩ (.int .i64 (v : Nat))).setCell ⟨p, 6, none⟩ (.int .i64 0)).setCell ⟨p, 7, none⟩ (.bool false)).setCell ⟨p, 8, none⟩ (.int .i64 0)).setCell ⟨p, 9, none⟩ (.slice none 0 0)) = W5 at *
    have v0 : W5.cell? ⟨p, 0, none⟩ = some (.int .i64 1) := (cell_of_row W5 p 0 _ 55 (0, 0) hh).trans rfl
    have v1 : W5.cell? ⟨p, 1, none⟩ = some (.int .i64 (c : Nat)) := (cell_of_row W5 p 1 _ 55 (0, 0) hh).trans rfl
    have v2 : W5.cell? ⟨p, 2, none⟩ = some (.int .i64 (kn : Nat)) := (cell_of_row W5 p 2 _ 55 (0, 0) hh).trans rfl
    have v3 : W5.cell? ⟨p, 3, none⟩ = some (.string t) := (cell_of_row W5 p 3 _ 55 (0, 0) hh).trans rfl
    have v4 : W5.cell? ⟨p, 4, none⟩ = some (.string ⟨#[]⟩) := (cell_of_row W5 p 4 _ 55 (0, 0) hh).trans rfl
    have v5 : W5.cell? ⟨p, 5, none⟩ = some (.int .i64 (v : Nat)) := (cell_of_row W5 p 5 _ 55 (0, 0) hh).trans rfl
    have v6 : W5.cell? ⟨p, 6, none⟩ = some (.int .i64 0) := (cell_of_row W5 p 6 _ 55 (0, 0) hh).trans rfl
    have v7 : W5.cell? ⟨p, 7, none⟩ = some (.bool false) := (cell_of_row W5 p 7 _ 55 (0, 0) hh).trans rfl
    have v8 : W5.cell? ⟨p, 8, none⟩ = some (.int .i64 0) := (cell_of_row W5 p 8 _ 55 (0, 0) hh).trans rfl
    have v9 : W5.cell? ⟨p, 9, none⟩ = some (.slice none 0 0) := (cell_of_row W5 p 9 _ 55 (0, 0) hh).trans rfl
    exact bodyPost_ret (v := .agg #[.int .i64 1, .int .i64 (c : Nat), .int .i64 (kn : Nat), .string t, .string ⟨#[]⟩, .int .i64 (v : Nat), .int .i64 0, .bool false, .int .i64 0, .slice none 0 0]) (by simp [results, Tryz.results17, go_sem, v0, v1, v2, v3, v4, v5, v6, v7, v8, v9]) rfl ⟨rfl, hb5⟩
  · refine wpK_op (o := _) (by rfl) (fun K9 hK9 => ?_)
    go_simp
    refine hK9 _ _ (fun _ _ => by rw [← HWB.out]; exact hS1) ?_
    clear hK9 K9
    try simp only [Act.put, List.getElem_toArray, List.getElem_cons_zero, List.getElem_cons_succ, List.setIfInBounds_toArray, List.set_cons_zero, List.set_cons_succ]
    rw [← HWB.out, ← HQE.out]
    refine wpAnyK_all (rs := [1]) (by kernel_rfl) (by simp) ?_
    intro ix hix
    simp only [List.mem_cons, List.not_mem_nil, or_false] at hix
    subst hix
    refine wpK_op (o := _) (by rfl) (fun K9 hK9 => ?_)
    go_simp
    go_at_call 16
    refine (HWI.out _).mono ?_
    rintro e w9 ⟨rfl, hh⟩
    subst w9
    refine hK9 _ _ (fun _ h => h) ?_
    clear hK9 K9
    try simp only [Act.put, List.getElem_toArray, List.getElem_cons_zero, List.getElem_cons_succ, List.setIfInBounds_toArray, List.set_cons_zero, List.set_cons_succ]
    refine wpAnyK_pure (i := 2) (oi := _) (v := ?_) (by rfl) (by kernel_rfl) (by intro _ _ _ h; exact h) (Or.inl ⟨by rfl, ?_⟩) ?_
    rotate_left 1
    · intro w' _
      go_simp
      all_goals with_reducible rfl
    simp only [Act.put, List.getElem_toArray, List.getElem_cons_zero, List.getElem_cons_succ, List.setIfInBounds_toArray, List.set_cons_zero, List.set_cons_succ]
    refine wpAnyK_pure (i := 5) (oi := _) (v := ?_) (by rfl) (by kernel_rfl) (by intro _ _ _ h; exact h) (Or.inl ⟨by rfl, ?_⟩) ?_
    rotate_left 1
    · intro w' _
      go_simp
      all_goals with_reducible rfl
    simp only [Act.put, List.getElem_toArray, List.getElem_cons_zero, List.getElem_cons_succ, List.setIfInBounds_toArray, List.set_cons_zero, List.set_cons_succ]
    refine wpAnyK_all (rs := [7]) (by kernel_rfl) (by simp) ?_
    intro ix hix
    simp only [List.mem_cons, List.not_mem_nil, or_false] at hix
    subst hix
    refine wpK_op (o := _) (by rfl) (fun K9 hK9 => ?_)
    have u0 : Wb.cell? ⟨q, 0, none⟩ = _ := cell_of_row Wb q 0 _ 35 (0, 0) HQ0.out
    have g0 : Wb.frozen? ⟨q, 0, none⟩ = false := by simp [World.frozen?, HQ0.out]
    have u1 : Wb.cell? ⟨q, 1, none⟩ = _ := cell_of_row Wb q 1 _ 35 (0, 0) HQ0.out
    have g1 : Wb.frozen? ⟨q, 1, none⟩ = false := by simp [World.frozen?, HQ0.out]
    have u2 : Wb.cell? ⟨q, 2, none⟩ = _ := cell_of_row Wb q 2 _ 35 (0, 0) HQ0.out
    have g2 : Wb.frozen? ⟨q, 2, none⟩ = false := by simp [World.frozen?, HQ0.out]
    have u3 : Wb.cell? ⟨q, 3, none⟩ = _ := cell_of_row Wb q 3 _ 35 (0, 0) HQ0.out
    have g3 : Wb.frozen? ⟨q, 3, none⟩ = false := by simp [World.frozen?, HQ0.out]
    simp only [List.getElem?_toArray, List.getElem?_cons_zero, List.getElem?_cons_succ] at u0 u1 u2 u3
    go_simp
    clear u0 u1 u2 u3 g0 g1 g2 g3
    refine hK9 _ _ (fun h => absurd h (by omega)) ?_
    clear hK9 K9
    try simp only [Act.put, List.getElem_toArray, List.getElem_cons_zero, List.getElem_cons_succ, List.setIfInBounds_toArray, List.set_cons_zero, List.set_cons_succ]
    refine wpAnyK_done (by kernel_rfl) ?_ _
    obtain ⟨Wc, hWc⟩ : ∃ Wc : World, Wc = (((Wb.setCell ⟨q, 0, none⟩ (.int .i64 (kn : Nat))).setCell ⟨q, 1, none⟩ (.string t)).setCell ⟨q, 2, none⟩ (.string ⟨#[]⟩)).setCell ⟨q, 3, none⟩ (.int .i64 (v : Nat)) := ⟨_, rfl⟩
    rw [← hWc]
    have hq4 : Wc.heap[q]? = some (.cells #[.int .i64 (kn : Nat), .string t, .string ⟨#[]⟩, .int .i64 (v : Nat)] 35 (0, 0)) := by rw [hWc]; exact (heap_setCell_same _ q 3 _ 35 _ (heap_setCell_same _ q 2 _ 35 _ (heap_setCell_same _ q 1 _ 35 _ (heap_setCell_same Wb q 0 _ 35 _ HQ0.out)))).trans rfl
    have hfar : ∀ x : Nat, x ≠ q → Wc.heap[x]? = Wb.heap[x]? := fun x hx => by rw [hWc]; exact (Below.heap_setCell _ _ _ x hx).trans ((Below.heap_setCell _ _ _ x hx).trans ((Below.heap_setCell _ _ _ x hx).trans (Below.heap_setCell _ _ _ x hx)))
    have hpc : Wc.heap[p]? = some (.cells #[.int .i64 0, .int .i64 0, .int .i64 0, .string ⟨#[]⟩, .string ⟨#[]⟩, .int .i64 0, .int .i64 0, .bool false, .int .i64 0, .slice none 0 0] 55 (0, 0)) := (hfar p (by have := HPQ.out; omega)).trans HP0.out
    have h11c : Wc.heap[b11]? = some (.cells #[.int .i64 (c : Nat)] 3 (0, 0)) := (hfar b11 (by have := HL.out.2.1; omega)).trans H11.out
    have hbc : Below w.heap.size w Wc := by rw [hWc]; exact (((HB.out.setCell (p := ⟨q, 0, none⟩) HL.out.1 _).setCell (p := ⟨q, 1, none⟩) HL.out.1 _).setCell (p := ⟨q, 2, none⟩) HL.out.1 _).setCell (p := ⟨q, 3, none⟩) HL.out.1 _
    have HBC := Lib.hid hbc
    have hpw : w.heap.size ≤ p := HL.out.2.2
    have x0 : Wc.cell? ⟨q, 0, none⟩ = _ := cell_of_row Wc q 0 _ 35 (0, 0) hq4
    have x1 : Wc.cell? ⟨q, 1, none⟩ = _ := cell_of_row Wc q 1 _ 35 (0, 0) hq4
    have x2 : Wc.cell? ⟨q, 2, none⟩ = _ := cell_of_row Wc q 2 _ 35 (0, 0) hq4
    have x3 : Wc.cell? ⟨q, 3, none⟩ = _ := cell_of_row Wc q 3 _ 35 (0, 0) hq4
    have y0 : Wc.cell? ⟨b11, 0, none⟩ = _ := cell_of_row Wc b11 0 _ 3 (0, 0) h11c
    simp only [List.getElem?_toArray, List.getElem?_cons_zero, List.getElem?_cons_succ] at x0 x1 x2 x3 y0
    have z0 : Wc.cell? ⟨p, 0, none⟩ = _ := cell_of_row Wc p 0 _ 55 (0, 0) hpc
    have f0 : Wc.frozen? ⟨p, 0, none⟩ = false := by simp [World.frozen?, hpc]
    have z1 : Wc.cell? ⟨p, 1, none⟩ = _ := cell_of_row Wc p 1 _ 55 (0, 0) hpc
    have f1 : Wc.frozen? ⟨p, 1, none⟩ = false := by simp [World.frozen?, hpc]
    have z2 : Wc.cell? ⟨p, 2, none⟩ = _ := cell_of_row Wc p 2 _ 55 (0, 0) hpc
    have f2 : Wc.frozen? ⟨p, 2, none⟩ = false := by simp [World.frozen?, hpc]
    have z3 : Wc.cell? ⟨p, 3, none⟩ = _ := cell_of_row Wc p 3 _ 55 (0, 0) hpc
    have f3 : Wc.frozen? ⟨p, 3, none⟩ = false := by simp [World.frozen?, hpc]
    have z4 : Wc.cell? ⟨p, 4, none⟩ = _ := cell_of_row Wc p 4 _ 55 (0, 0) hpc
    have f4 : Wc.frozen? ⟨p, 4, none⟩ = false := by simp [World.frozen?, hpc]
    have z5 : Wc.cell? ⟨p, 5, none⟩ = _ := cell_of_row Wc p 5 _ 55 (0, 0) hpc
    have f5 : Wc.frozen? ⟨p, 5, none⟩ = false := by simp [World.frozen?, hpc]
    have z6 : Wc.cell? ⟨p, 6, none⟩ = _ := cell_of_row Wc p 6 _ 55 (0, 0) hpc
    have f6 : Wc.frozen? ⟨p, 6, none⟩ = false := by simp [World.frozen?, hpc]
    have z7 : Wc.cell? ⟨p, 7, none⟩ = _ := cell_of_row Wc p 7 _ 55 (0, 0) hpc
    have f7 : Wc.frozen? ⟨p, 7, none⟩ = false := by simp [World.frozen?, hpc]
    have z8 : Wc.cell? ⟨p, 8, none⟩ = _ := cell_of_row Wc p 8 _ 55 (0, 0) hpc
    have f8 : Wc.frozen? ⟨p, 8, none⟩ = false := by simp [World.frozen?, hpc]
    have z9 : Wc.cell? ⟨p, 9, none⟩ = _ := cell_of_row Wc p 9 _ 55 (0, 0) hpc
    have f9 : Wc.frozen? ⟨p, 9, none⟩ = false := by simp [World.frozen?, hpc]
    simp only [List.getElem?_toArray, List.getElem?_cons_zero, List.getElem?_cons_succ] at z0 z1 z2 z3 z4 z5 z6 z7 z8 z9
    have HPC := Lib.hid hpc
    have HPW := Lib.hid hpw
    clear hWc hq4 hfar hpc h11c hbc hpw
    go_wp2
    have hh : ((((((((((Wc.setCell ⟨p, 0, none⟩ (.int .i64 1)).setCell ⟨p, 1, none⟩ (.int .i64 (c : Nat))).setCell ⟨p, 2, none⟩ (.int .i64 (kn : Nat))).setCell ⟨p, 3, none⟩ (.string t)).setCell ⟨p, 4, none⟩ (.string ⟨#[]⟩)).setCell ⟨p, 5, none⟩ (.int .i64 (v : Nat))).setCell ⟨p, 6, none⟩ (.int .i64 0)).setCell ⟨p, 7, none⟩ (.bool false)).setCell ⟨p, 8, none⟩ (.int .i64 0)).setCell ⟨p, 9, none⟩ (.slice none 0 0)).heap[p]? = some (.cells #[.int .i64 1, .int .i64 (c : Nat), .int .i64 (kn : Nat), .string t, .string ⟨#[]⟩, .int .i64 (v : Nat), .int .i64 0, .bool false, .int .i64 0, .slice none 0 0] 55 (0, 0)) := set10 HPC.out (.int .i64 1) (.int .i64 (c : Nat)) (.int .i64 (kn : Nat)) (.string t) (.string ⟨#[]⟩) (.int .i64 (v : Nat)) (.int .i64 0) (.bool false) (.int .i64 0) (.slice none 0 0)
    have hb5 : Below w.heap.size w ((((((((((Wc.setCell ⟨p, 0, none⟩ (.int .i64 1)).setCell ⟨p, 1, none⟩ (.int .i64 (c : Nat))).setCell ⟨p, 2, none⟩ (.int .i64 (kn : Nat))).setCell ⟨p, 3, none⟩ (.string t)).setCell ⟨p, 4, none⟩ (.string ⟨#[]⟩)).setCell ⟨p, 5, none⟩ (.int .i64 (v : Nat))).setCell ⟨p, 6, none⟩ (.int .i64 0)).setCell ⟨p, 7, none⟩ (.bool false)).setCell ⟨p, 8, none⟩ (.int .i64 0)).setCell ⟨p, 9, none⟩ (.slice none 0 0)) := ((((((((((HBC.out.setCell (p := ⟨p, 0, none⟩) HPW.out _).setCell (p := ⟨p, 1, none⟩) HPW.out _).setCell (p := ⟨p, 2, none⟩) HPW.out _).setCell (p := ⟨p, 3, none⟩) HPW.out _).setCell (p := ⟨p, 4, none⟩) HPW.out _).setCell (p := ⟨p, 5, none⟩) HPW.out _).setCell (p := ⟨p, 6, none⟩) HPW.out _).setCell (p := ⟨p, 7, none⟩) HPW.out _).setCell (p := ⟨p, 8, none⟩) HPW.out _).setCell (p := ⟨p, 9, none⟩) HPW.out _)
    generalize ((((((((((Wc.setCell ⟨p, 0, none⟩ (.int .i64 1)).setCell ⟨p, 1, none⟩ (.int .i64 (c : Nat))).setCell ⟨p, 2, none⟩ (.int .i64 (kn : Nat))).setCell ⟨p, 3, none⟩ (.string t)).setCell ⟨p, 4, none⟩ (.string ⟨#[]⟩)).setCell ⟨p, 5, none⟩ (.int .i64 (v : Nat))).setCell ⟨p, 6, none⟩ (.int .i64 0)).setCell ⟨p, 7, none⟩ (.bool false)).setCell ⟨p, 8, none⟩ (.int .i64 0)).setCell ⟨p, 9, none⟩ (.slice none 0 0)) = W5 at *
    have v0 : W5.cell? ⟨p, 0, none⟩ = some (.int .i64 1) := (cell_of_row W5 p 0 _ 55 (0, 0) hh).trans rfl
    have v1 : W5.cell? ⟨p, 1, none⟩ = some (.int .i64 (c : Nat)) := (cell_of_row W5 p 1 _ 55 (0, 0) hh).trans rfl
    have v2 : W5.cell? ⟨p, 2, none⟩ = some (.int .i64 (kn : Nat)) := (cell_of_row W5 p 2 _ 55 (0, 0) hh).trans rfl
    have v3 : W5.cell? ⟨p, 3, none⟩ = some (.string t) := (cell_of_row W5 p 3 _ 55 (0, 0) hh).trans rfl
    have v4 : W5.cell? ⟨p, 4, none⟩ = some (.string ⟨#[]⟩) := (cell_of_row W5 p 4 _ 55 (0, 0) hh).trans rfl
    have v5 : W5.cell? ⟨p, 5, none⟩ = some (.int .i64 (v : Nat)) := (cell_of_row W5 p 5 _ 55 (0, 0) hh).trans rfl
    have v6 : W5.cell? ⟨p, 6, none⟩ = some (.int .i64 0) := (cell_of_row W5 p 6 _ 55 (0, 0) hh).trans rfl
    have v7 : W5.cell? ⟨p, 7, none⟩ = some (.bool false) := (cell_of_row W5 p 7 _ 55 (0, 0) hh).trans rfl
    have v8 : W5.cell? ⟨p, 8, none⟩ = some (.int .i64 0) := (cell_of_row W5 p 8 _ 55 (0, 0) hh).trans rfl
    have v9 : W5.cell? ⟨p, 9, none⟩ = some (.slice none 0 0) := (cell_of_row W5 p 9 _ 55 (0, 0) hh).trans rfl
    exact bodyPost_ret (v := .agg #[.int .i64 1, .int .i64 (c : Nat), .int .i64 (kn : Nat), .string t, .string ⟨#[]⟩, .int .i64 (v : Nat), .int .i64 0, .bool false, .int .i64 0, .slice none 0 0]) (by simp [results, Tryz.results17, go_sem, v0, v1, v2, v3, v4, v5, v6, v7, v8, v9]) rfl ⟨rfl, hb5⟩
end Go.Proofs.YtedjimkpmmacoaaGreatDoor
