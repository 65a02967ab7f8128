/-
  node.separate and node.Turn at a right node; conditions: lengths.
-/
import Derived.Test.YtononinmjijhoaaNd3
namespace Go.Proofs.Ytononinmjijhoaa
open Go.RowKit Go.WideShapes Go.ChangeShapes
set_option linter.all false
/-- A node with rows of the call's own comes back. -/
def NV (base : Nat) (kd wd : Int) (pf : ByteArray) (xs ys : List Int) (n : Nat) (w : World) (v : Value) (w' : World) : Prop :=
  ∃ A c A' c', v = nodeV kd wd pf A c A' c' n ∧ Mid w' base 5 1 (.slice A n c) n (xs.map (Value.int .u8)) ∧ Mid w' base 3 1 (.slice A' n c') n (ys.map (Value.int .i64)) ∧ Below base w w'
theorem Mid.lower {w : World} {B B' size n : Nat} {t : TypeId} {v : Value} {xs : List Value} (h : Mid w B' t size v n xs) (hb : B ≤ B') : Mid w B t size v n xs := by
  refine ⟨h.1, ?_⟩
  rcases h.2 with q | ⟨g, off, cap, cur, h1, h2, h3⟩
  · exact .inl q
  · exact .inr ⟨g, off, cap, cur, h1, by omega, h3⟩
/-- The boxes of a call: the node's own copy at b, the result at b + 1. -/
def Bx (b : Nat) (vs rs : Array Value) (w : World) : Prop := w.heap[b]? = some (.cells vs 28 (0, 0)) ∧ w.heap[b + 1]? = some (.cells rs 28 (0, 0))
theorem cell_of {w : World} {b : Nat} {cs : Array Value} {T : TypeId} {fr : Nat × Nat} (hb : w.heap[b]? = some (.cells cs T fr)) (j : Nat) : w.cell? ⟨b, j, none⟩ = cs[j]? := by simp [World.cell?, hb]
theorem frozen_of {w : World} {b : Nat} {cs : Array Value} {T : TypeId} (hb : w.heap[b]? = some (.cells cs T (0, 0))) (j : Nat) : w.frozen? ⟨b, j, none⟩ = false := by simp [World.frozen?, hb]
theorem heap_below {B : Nat} {w w' : World} (h : Below B w w') {b : Nat} (hb : b < B) : w'.heap[b]? = w.heap[b]? := h.block b hb
set_option maxRecDepth 100000 in
set_option maxHeartbeats 1600000 in
theorem sep_any (kd wd : Int) (pf : ByteArray) (A : Option Addr) (c : Nat) (A' : Option Addr) (c' n : Nat) (xs ys : List Int) (w : World) (hn : n ≤ 256)
    (hx : Reads w w.heap.size 1 A n (xs.map (Value.int .u8))) (hy : Reads w w.heap.size 1 A' n (ys.map (Value.int .i64))) :
    Calls Try.prog 27 #[nodeV kd wd pf A c A' c' n] w fun e w' => ∃ v, e = .returned v ∧ NV w.heap.size kd wd pf xs ys n w v w' := by
  obtain ⟨ib, bi, bz0, bz1, bz2⟩ := info_parts infoB
  obtain ⟨ii, ji, jz0, jz1, jz2⟩ := info_parts infoI
  obtain ⟨wb, hwb⟩ : ∃ wb, (w.alloc (.cells #[.int .i64 kd, .int .u64 wd, .string pf, .slice A n c, .slice A' n c'] 28)).alloc (.cells #[.int .i64 0, .int .u64 0, .string ⟨#[]⟩, .slice none 0 0, .slice none 0 0] 28) = wb := ⟨_, rfl⟩
  have HSZ : Hid (wb.heap.size = w.heap.size + 2) := Lib.hid (by rw [← hwb]; simp)
  have HBW : Hid (Below w.heap.size w wb) := Lib.hid (by rw [← hwb]; exact ((Below.refl _ _).alloc (Nat.le_refl _) _).alloc (by simp) _)
  have HBOX : Hid (Bx w.heap.size #[.int .i64 kd, .int .u64 wd, .string pf, .slice A n c, .slice A' n c'] #[.int .i64 0, .int .u64 0, .string ⟨#[]⟩, .slice none 0 0, .slice none 0 0] wb) := Lib.hid (by
    rw [← hwb]
    refine ⟨?_, ?_⟩
    · rw [heap_alloc_old _ _ (by simp)]; exact heap_alloc_new _ _
    · have := heap_alloc_new (w.alloc (.cells #[.int .i64 kd, .int .u64 wd, .string pf, .slice A n c, .slice A' n c'] 28)) (.cells #[.int .i64 0, .int .u64 0, .string ⟨#[]⟩, .slice none 0 0, .slice none 0 0] 28)
      simpa using this)
  have HX : Hid (Reads wb wb.heap.size 1 A n (xs.map (Value.int .u8))) := Lib.hid ((hx.below HBW.out).more HBW.out.size)
  have HY : Hid (Reads wb wb.heap.size 1 A' n (ys.map (Value.int .i64))) := Lib.hid ((hy.below HBW.out).more HBW.out.size)
  have HYW : Hid (Reads w w.heap.size 1 A' n (ys.map (Value.int .i64))) := Lib.hid hy
  have HW := Lib.hid hwb
  have G1 : Hid True := trivial
  clear hx hy hwb
  unfold nodeV
  go_enter Try.func27, Try.ntmps27
  go_wp2_with (first
    | (clear G1; rw [HW.out]
       refine wpList_append_src rfl (.const (.slice none 0 0)) (.tmp 4) 23 rfl wb.heap.size 5 ib _ 1 1 Try.underlying23 bi bz0 bz1 bz2 rfl (by omega) (.slice none 0 0) 0 [] rfl (Mid.nil _ _ _ _) wb.heap.size A n c (xs.map (Value.int .u8)) rfl HX.out (one_ints _ _) (by unfold maxLen; omega) (by omega) (Nat.le_refl _) ?_
       intro v1 w1 hm1 hr1
       rw [Nat.zero_add, List.nil_append] at hm1
       have HB1 : Hid (Below wb.heap.size wb w1) := Lib.hid ((Below.refl _ _).grown hr1.grown (Nat.le_refl _) (fun g hg => by cases hg))
       obtain ⟨A1, c1, rfl⟩ := hm1.form
       have HM1 := Lib.hid hm1
       have hh0 : w1.heap[w.heap.size]? = some (.cells #[.int .i64 kd, .int .u64 wd, .string pf, .slice A n c, .slice A' n c'] 28 (0, 0)) := (heap_below HB1.out (by rw [HSZ.out]; omega)).trans HBOX.out.1
       have k3 : w1.cell? ⟨w.heap.size, 3, none⟩ = some (.slice A n c) := cell_of hh0 3
       have f3 : w1.frozen? ⟨w.heap.size, 3, none⟩ = false := frozen_of hh0 3
       have hh1 : (w1.setCell ⟨w.heap.size, 3, none⟩ (.slice A1 n c1)).heap[w.heap.size]? = some (.cells #[.int .i64 kd, .int .u64 wd, .string pf, .slice A1 n c1, .slice A' n c'] 28 (0, 0)) := heap_setCell_same _ _ _ _ _ _ hh0
       have k4 : (w1.setCell ⟨w.heap.size, 3, none⟩ (.slice A1 n c1)).cell? ⟨w.heap.size, 4, none⟩ = some (.slice A' n c') := cell_of hh1 4
       obtain ⟨w2, hw2⟩ : ∃ w2, w1.setCell ⟨w.heap.size, 3, none⟩ (.slice A1 n c1) = w2 := ⟨_, rfl⟩
       have HW2 := Lib.hid hw2
       have HH2 : Hid (w2.heap[w.heap.size]? = some (.cells #[.int .i64 kd, .int .u64 wd, .string pf, .slice A1 n c1, .slice A' n c'] 28 (0, 0))) := Lib.hid (by rw [← hw2]; exact hh1)
       have HB2 : Hid (Below (w.heap.size + 2) wb w1 ∧ Below w.heap.size w w2 ∧ w2.heap[w.heap.size + 1]? = some (.cells #[.int .i64 0, .int .u64 0, .string ⟨#[]⟩, .slice none 0 0, .slice none 0 0] 28 (0, 0)) ∧ w.heap.size + 2 ≤ w2.heap.size) := Lib.hid (by
         have h1 := HB1.out
         rw [HSZ.out] at h1
         refine ⟨h1, ?_, ?_, ?_⟩
         · rw [← hw2]; exact (HBW.out.trans (h1.mono (by omega))).setCell (p := ⟨w.heap.size, 3, none⟩) (Nat.le_refl _) _
         · rw [← hw2, heap_setCell_other _ _ _ _ (by show w.heap.size + 1 ≠ w.heap.size; omega), heap_below h1 (by omega)]; exact HBOX.out.2
         · rw [← hw2]; have := h1.size; rw [HSZ.out] at this; simpa using this)
       have HM2 : Hid (Mid w2 wb.heap.size 5 1 (.slice A1 n c1) n (xs.map (Value.int .u8))) := Lib.hid (HM1.out.same fun g hg => by
         rw [← hw2]; exact Below.heap_setCell _ _ _ _ (by have := (HM1.out.lt g hg).1; rw [HSZ.out] at this; show g ≠ w.heap.size; omega))
       have HY2 : Hid (Reads w2 w.heap.size 1 A' n (ys.map (Value.int .i64))) := Lib.hid (HYW.out.below HB2.out.2.1)
       clear hm1 hr1 hh0 hh1 hw2
       have G2 : Hid True := trivial)
    | (clear G2; rw [HW2.out]
       refine wpList_append_src rfl (.const (.slice none 0 0)) (.tmp 8) 26 rfl (w.heap.size + 2) 3 ii _ 1 8 Try.underlying26 ji jz0 jz1 jz2 rfl (by omega) (.slice none 0 0) 0 [] rfl (Mid.nil _ _ _ _) w.heap.size A' n c' (ys.map (Value.int .i64)) rfl HY2.out (one_ints _ _) (by unfold maxLen; omega) (by omega) HB2.out.2.2.2 ?_
       intro v3 w3 hm3 hr3
       rw [Nat.zero_add, List.nil_append] at hm3
       have HB3 : Hid (Below w2.heap.size w2 w3) := Lib.hid ((Below.refl _ _).grown hr3.grown (Nat.le_refl _) (fun g hg => by cases hg))
       obtain ⟨A2, c2, rfl⟩ := hm3.form
       have HM3 := Lib.hid hm3
       have hh3 : w3.heap[w.heap.size]? = some (.cells #[.int .i64 kd, .int .u64 wd, .string pf, .slice A1 n c1, .slice A' n c'] 28 (0, 0)) := (heap_below HB3.out (by have := HB2.out.2.2.2; omega)).trans HH2.out
       have k4' : w3.cell? ⟨w.heap.size, 4, none⟩ = some (.slice A' n c') := cell_of hh3 4
       have f4 : w3.frozen? ⟨w.heap.size, 4, none⟩ = false := frozen_of hh3 4
       have hh4 : (w3.setCell ⟨w.heap.size, 4, none⟩ (.slice A2 n c2)).heap[w.heap.size]? = some (.cells #[.int .i64 kd, .int .u64 wd, .string pf, .slice A1 n c1, .slice A2 n c2] 28 (0, 0)) := heap_setCell_same _ _ _ _ _ _ hh3
       have rr3 : w3.heap[w.heap.size + 1]? = some (.cells #[.int .i64 0, .int .u64 0, .string ⟨#[]⟩, .slice none 0 0, .slice none 0 0] 28 (0, 0)) := (heap_below HB3.out (by have := HB2.out.2.2.2; omega)).trans HB2.out.2.2.1
       have rr4 : (w3.setCell ⟨w.heap.size, 4, none⟩ (.slice A2 n c2)).heap[w.heap.size + 1]? = some (.cells #[.int .i64 0, .int .u64 0, .string ⟨#[]⟩, .slice none 0 0, .slice none 0 0] 28 (0, 0)) := by rw [heap_setCell_other _ _ _ _ (by show w.heap.size + 1 ≠ w.heap.size; omega)]; exact rr3
       have b0 := cell_of hh4 0
       have b1 := cell_of hh4 1
       have b2 := cell_of hh4 2
       have b3 := cell_of hh4 3
       have b4 := cell_of hh4 4
       have r0 := cell_of rr4 0
       have r1 := cell_of rr4 1
       have r2 := cell_of rr4 2
       have r3 := cell_of rr4 3
       have r4 := cell_of rr4 4
       have q0 := frozen_of rr4 0
       have q1 := frozen_of rr4 1
       have q2 := frozen_of rr4 2
       have q3 := frozen_of rr4 3
       have q4 := frozen_of rr4 4
       have HR4 := Lib.hid rr4
       clear hm3 hr3 hh3 hh4 rr3 rr4 k3 f3 k4
       simp only [List.getElem?_toArray, Array.getElem?_toList] at b0 b1 b2 b3 b4 r0 r1 r2 r3 r4)
    | fail)
  have s4 : w3.heap.size ≤ (w3.setCell ⟨w.heap.size, 4, none⟩ (.slice A2 n c2)).heap.size := by simp
  have h5 := heap_setCell_same _ _ 4 _ _ (.slice A2 n c2) (heap_setCell_same _ _ 3 _ _ (.slice A1 n c1) (heap_setCell_same _ _ 2 _ _ (.string pf) (heap_setCell_same _ _ 1 _ _ (.int .u64 wd) (heap_setCell_same _ _ 0 _ _ (.int .i64 kd) HR4.out))))
  have far : ∀ g, w.heap.size + 2 ≤ g → ((((((w3.setCell ⟨w.heap.size, 4, none⟩ (.slice A2 n c2)).setCell ⟨w.heap.size + 1, 0, none⟩ (.int .i64 kd)).setCell ⟨w.heap.size + 1, 1, none⟩ (.int .u64 wd)).setCell ⟨w.heap.size + 1, 2, none⟩ (.string pf)).setCell ⟨w.heap.size + 1, 3, none⟩ (.slice A1 n c1)).setCell ⟨w.heap.size + 1, 4, none⟩ (.slice A2 n c2)).heap[g]? = w3.heap[g]? := fun g hg => by
    rw [heap_setCell_other _ _ _ _ (by show g ≠ w.heap.size + 1; omega), heap_setCell_other _ _ _ _ (by show g ≠ w.heap.size + 1; omega), heap_setCell_other _ _ _ _ (by show g ≠ w.heap.size + 1; omega), heap_setCell_other _ _ _ _ (by show g ≠ w.heap.size + 1; omega), heap_setCell_other _ _ _ _ (by show g ≠ w.heap.size + 1; omega), heap_setCell_other _ _ _ _ (by show g ≠ w.heap.size; omega)]
  have bel : Below w.heap.size w ((((((w3.setCell ⟨w.heap.size, 4, none⟩ (.slice A2 n c2)).setCell ⟨w.heap.size + 1, 0, none⟩ (.int .i64 kd)).setCell ⟨w.heap.size + 1, 1, none⟩ (.int .u64 wd)).setCell ⟨w.heap.size + 1, 2, none⟩ (.string pf)).setCell ⟨w.heap.size + 1, 3, none⟩ (.slice A1 n c1)).setCell ⟨w.heap.size + 1, 4, none⟩ (.slice A2 n c2)) :=
    ((((((HB2.out.2.1.trans (HB3.out.mono (by have := HB2.out.2.2.2; omega))).setCell (p := ⟨w.heap.size, 4, none⟩) (Nat.le_refl _) _).setCell (p := ⟨w.heap.size + 1, 0, none⟩) (Nat.le_succ _) _).setCell (p := ⟨w.heap.size + 1, 1, none⟩) (Nat.le_succ _) _).setCell (p := ⟨w.heap.size + 1, 2, none⟩) (Nat.le_succ _) _).setCell (p := ⟨w.heap.size + 1, 3, none⟩) (Nat.le_succ _) _).setCell (p := ⟨w.heap.size + 1, 4, none⟩) (Nat.le_succ _) _
  clear b0 b1 b2 b3 b4 r0 r1 r2 r3 r4 q0 q1 q2 q3 q4 k4' f4
  generalize ((((((w3.setCell ⟨w.heap.size, 4, none⟩ (.slice A2 n c2)).setCell ⟨w.heap.size + 1, 0, none⟩ (.int .i64 kd)).setCell ⟨w.heap.size + 1, 1, none⟩ (.int .u64 wd)).setCell ⟨w.heap.size + 1, 2, none⟩ (.string pf)).setCell ⟨w.heap.size + 1, 3, none⟩ (.slice A1 n c1)).setCell ⟨w.heap.size + 1, 4, none⟩ (.slice A2 n c2)) = w5 at *
  have e0 : w5.cell? ⟨w.heap.size + 1, 0, none⟩ = some (.int .i64 kd) := cell_of h5 0
  have e1 : w5.cell? ⟨w.heap.size + 1, 1, none⟩ = some (.int .u64 wd) := cell_of h5 1
  have e2 : w5.cell? ⟨w.heap.size + 1, 2, none⟩ = some (.string pf) := cell_of h5 2
  have e3 : w5.cell? ⟨w.heap.size + 1, 3, none⟩ = some (.slice A1 n c1) := cell_of h5 3
  have e4 : w5.cell? ⟨w.heap.size + 1, 4, none⟩ = some (.slice A2 n c2) := cell_of h5 4
  have hb3 := HB3.out
  have hb2 := HB2.out
  exact bodyPost_ret (v := nodeV kd wd pf A1 c1 A2 c2 n) (by simp [results, Try.results27, go_sem, e0, e1, e2, e3, e4, nodeV]) rfl
    ⟨_, rfl, A1, c1, A2, c2, rfl,
      (HM2.out.same fun g hg => by
        have h1 := HM2.out.lt g hg
        rw [HSZ.out] at h1
        exact (far g h1.1).trans (heap_below hb3 h1.2)).lower (by rw [HSZ.out]; omega),
      (HM3.out.same fun g hg => far g (HM3.out.lt g hg).1).lower (by omega), bel⟩
end Go.Proofs.Ytononinmjijhoaa
