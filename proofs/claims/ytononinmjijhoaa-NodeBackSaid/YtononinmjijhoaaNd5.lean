/-
  node.Turn at a right node, to a kind that has room; conditions: lengths.
-/
import Derived.Test.YtononinmjijhoaaNd4
namespace Go.Proofs.Ytononinmjijhoaa
open Go.RowKit Go.WideShapes Go.ChangeShapes
set_option linter.all false
theorem heap_far {w : World} {a : Addr} {v : Value} {k : Nat} (h : k ≠ a.block) {o : Option Obj} (hk : w.heap[k]? = o) : (w.setCell a v).heap[k]? = o := (heap_setCell_other w a k v h).trans hk
set_option maxRecDepth 100000 in
set_option maxHeartbeats 3200000 in
theorem turn_yes (kd wd : Int) (pf : ByteArray) (A : Option Addr) (c : Nat) (A' : Option Addr) (c' n : Nat) (xs ys : List Int) (to : Int) (w : World) (h : NodeL kd wd pf xs ys n) (hn : n ≤ 256) (ht : (n : Int) ≤ highV to) (ht0 : 0 < highV to)
    (hx : Reads w w.heap.size 1 A n (xs.map (Value.int .u8))) (hy : Reads w w.heap.size 1 A' n (ys.map (Value.int .i64))) :
    Calls Try.prog 11 #[nodeV kd wd pf A c A' c' n, .int .i64 to] w fun e w' => ∃ v, e = .returned (.tuple #[v, .bool true]) ∧ NV w.heap.size to 0 pf xs ys n w v w' := by
  obtain ⟨wb, hwb⟩ : ∃ wb, (w.alloc (.cells #[.int .i64 kd, .int .u64 wd, .string pf, .slice A n c, .slice A' n c'] 28)).alloc (.cells #[.int .i64 0, .int .u64 0, .string ⟨#[]⟩, .slice none 0 0, .slice none 0 0] 28) = wb := ⟨_, rfl⟩
  have HSZ : Hid (wb.heap.size = w.heap.size + 2) := Lib.hid (by rw [← hwb]; simp)
  have HBW : Hid (Below w.heap.size w wb) := Lib.hid (by rw [← hwb]; exact ((Below.refl _ _).alloc (Nat.le_refl _) _).alloc (by simp) _)
  have HBOX : Hid (Bx w.heap.size #[.int .i64 kd, .int .u64 wd, .string pf, .slice A n c, .slice A' n c'] #[.int .i64 0, .int .u64 0, .string ⟨#[]⟩, .slice none 0 0, .slice none 0 0] wb) := Lib.hid (by
    rw [← hwb]
    refine ⟨?_, ?_⟩
    · rw [heap_alloc_old _ _ (by simp)]; exact heap_alloc_new _ _
    · have := heap_alloc_new (w.alloc (.cells #[.int .i64 kd, .int .u64 wd, .string pf, .slice A n c, .slice A' n c'] 28)) (.cells #[.int .i64 0, .int .u64 0, .string ⟨#[]⟩, .slice none 0 0, .slice none 0 0] 28)
      simpa using this)
  have HX : Hid (Reads wb wb.heap.size 1 A n (xs.map (Value.int .u8))) := Lib.hid ((hx.below HBW.out).more HBW.out.size)
  have HY : Hid (Reads wb wb.heap.size 1 A' n (ys.map (Value.int .i64))) := Lib.hid ((hy.below HBW.out).more HBW.out.size)
  have HW := Lib.hid hwb
  have HL := Lib.hid h
  obtain ⟨hv, hhv⟩ : ∃ hv, hv = highV to := ⟨_, rfl⟩
  have HV := Lib.hid hhv
  rw [← hhv] at ht ht0
  have t1 : ¬ hv < (n : Int) := by omega
  have t2 : (hv == 0) = false := by simp <;> omega
  have t1' : decide (hv < (n : Int)) = false := decide_eq_false t1
  have F1 : Hid True := trivial
  clear hx hy h hhv hwb
  unfold nodeV
  go_enter Try.func11, Try.ntmps11
  go_wp2
  rw [HW.out]
  have hb0 : wb.drew.heap[w.heap.size]? = some (.cells #[.int .i64 kd, .int .u64 wd, .string pf, .slice A n c, .slice A' n c'] 28 (0, 0)) := HBOX.out.1
  have p0 : wb.drew.cell? ⟨w.heap.size, 0, none⟩ = some (.int .i64 kd) := cell_of hb0 0
  have p1 : wb.drew.cell? ⟨w.heap.size, 1, none⟩ = some (.int .u64 wd) := cell_of hb0 1
  have p2 : wb.drew.cell? ⟨w.heap.size, 2, none⟩ = some (.string pf) := cell_of hb0 2
  have p3 : wb.drew.cell? ⟨w.heap.size, 3, none⟩ = some (.slice A n c) := cell_of hb0 3
  have p4 : wb.drew.cell? ⟨w.heap.size, 4, none⟩ = some (.slice A' n c') := cell_of hb0 4
  go_region_held3 (fun w' => w'.cell? ⟨w.heap.size, 0, none⟩ = some (.int .i64 kd) ∧ w'.cell? ⟨w.heap.size, 1, none⟩ = some (.int .u64 wd) ∧ w'.cell? ⟨w.heap.size, 2, none⟩ = some (.string pf) ∧ w'.cell? ⟨w.heap.size, 3, none⟩ = some (.slice A n c) ∧ w'.cell? ⟨w.heap.size, 4, none⟩ = some (.slice A' n c')) (first | (go_keep; done) | exact ⟨p0, p1, p2, p3, p4⟩ | exact ⟨k0, k1, k2, k3, k4⟩)
    (first
      | (go_at_call 21; clear F1; refine (right_any kd wd pf A c A' c' n xs ys wb.drew HL.out hn HX.out HY.out).mono ?_
         rintro e w1 ⟨rfl, hb1⟩
         have HB1 : Hid (Below wb.heap.size wb w1) := Lib.hid (Below.trans (Below.refl wb.heap.size wb).drew hb1)
         have hh1 : w1.heap[w.heap.size]? = some (.cells #[.int .i64 kd, .int .u64 wd, .string pf, .slice A n c, .slice A' n c'] 28 (0, 0)) := (heap_below HB1.out (by rw [HSZ.out]; omega)).trans HBOX.out.1
         have k0 : w1.cell? ⟨w.heap.size, 0, none⟩ = some (.int .i64 kd) := cell_of hh1 0
         have k1 : w1.cell? ⟨w.heap.size, 1, none⟩ = some (.int .u64 wd) := cell_of hh1 1
         have k2 : w1.cell? ⟨w.heap.size, 2, none⟩ = some (.string pf) := cell_of hh1 2
         have k3 : w1.cell? ⟨w.heap.size, 3, none⟩ = some (.slice A n c) := cell_of hh1 3
         have k4 : w1.cell? ⟨w.heap.size, 4, none⟩ = some (.slice A' n c') := cell_of hh1 4
         clear hb1)
      | (go_at_call 12; refine (high_any to _).mono ?_; rintro e w' ⟨rfl, hw'⟩; replace hw' := hw'.symm; subst hw'; rw [← HV.out]))
  have HX1 : Hid (Reads w1 w1.heap.size 1 A n (xs.map (Value.int .u8))) := Lib.hid ((HX.out.below HB1.out).more HB1.out.size)
  have HY1 : Hid (Reads w1 w1.heap.size 1 A' n (ys.map (Value.int .i64))) := Lib.hid ((HY.out.below HB1.out).more HB1.out.size)
  have HR1 : Hid (w1.heap[w.heap.size + 1]? = some (.cells #[.int .i64 0, .int .u64 0, .string ⟨#[]⟩, .slice none 0 0, .slice none 0 0] 28 (0, 0))) := Lib.hid ((heap_below HB1.out (by rw [HSZ.out]; omega)).trans HBOX.out.2)
  have HH1 := Lib.hid hh1
  have HS1 : Hid (w.heap.size + 2 ≤ w1.heap.size) := Lib.hid (by have := HB1.out.size; rw [HSZ.out] at this; exact this)
  have F2 : Hid True := trivial
  clear hb0 p0 p1 p2 p3 p4 hh1
  go_wp2_with (first
    | (go_at_call 27; clear F2; refine (sep_any kd wd pf A c A' c' n xs ys w1 hn HX1.out HY1.out).mono ?_
       rintro e w2 ⟨vv, rfl, A1, c1, A2, c2, rfl, hm1, hm2, hb2⟩
       unfold nodeV
       have HM1 := Lib.hid hm1
       have HM2 := Lib.hid hm2
       have HB2 := Lib.hid hb2
       have g0 : w2.heap[w.heap.size]? = some (.cells #[.int .i64 kd, .int .u64 wd, .string pf, .slice A n c, .slice A' n c'] 28 (0, 0)) := (heap_below hb2 (by have := HS1.out; omega)).trans HH1.out
       have g1 : w2.heap[w.heap.size + 1]? = some (.cells #[.int .i64 0, .int .u64 0, .string ⟨#[]⟩, .slice none 0 0, .slice none 0 0] 28 (0, 0)) := (heap_below hb2 (by have := HS1.out; omega)).trans HR1.out
       have j0 := cell_of g0 0
       have j1 := cell_of g0 1
       have j2 := cell_of g0 2
       have j3 := cell_of g0 3
       have j4 := cell_of g0 4
       have q0 := frozen_of g0 0
       have q1 := frozen_of g0 1
       have q2 := frozen_of g0 2
       have q3 := frozen_of g0 3
       have q4 := frozen_of g0 4
       have g5 : (((((w2.setCell ⟨w.heap.size, 0, none⟩ (.int .i64 kd)).setCell ⟨w.heap.size, 1, none⟩ (.int .u64 wd)).setCell ⟨w.heap.size, 2, none⟩ (.string pf)).setCell ⟨w.heap.size, 3, none⟩ (.slice A1 n c1)).setCell ⟨w.heap.size, 4, none⟩ (.slice A2 n c2)).heap[w.heap.size]? = some (.cells #[.int .i64 kd, .int .u64 wd, .string pf, .slice A1 n c1, .slice A2 n c2] 28 (0, 0)) := (heap_setCell_same _ _ 4 _ _ (.slice A2 n c2) (heap_setCell_same _ _ 3 _ _ (.slice A1 n c1) (heap_setCell_same _ _ 2 _ _ (.string pf) (heap_setCell_same _ _ 1 _ _ (.int .u64 wd) (heap_setCell_same _ _ 0 _ _ (.int .i64 kd) g0)))))
       have m0 := cell_of g5 0
       have n0 := frozen_of g5 0
       have g6 : ((((((w2.setCell ⟨w.heap.size, 0, none⟩ (.int .i64 kd)).setCell ⟨w.heap.size, 1, none⟩ (.int .u64 wd)).setCell ⟨w.heap.size, 2, none⟩ (.string pf)).setCell ⟨w.heap.size, 3, none⟩ (.slice A1 n c1)).setCell ⟨w.heap.size, 4, none⟩ (.slice A2 n c2)).setCell ⟨w.heap.size, 0, none⟩ (.int .i64 to)).heap[w.heap.size]? = some (.cells #[.int .i64 to, .int .u64 wd, .string pf, .slice A1 n c1, .slice A2 n c2] 28 (0, 0)) := heap_setCell_same _ _ 0 _ _ _ g5
       have m1 := cell_of g6 1
       have n1 := frozen_of g6 1
       have g7 : (((((((w2.setCell ⟨w.heap.size, 0, none⟩ (.int .i64 kd)).setCell ⟨w.heap.size, 1, none⟩ (.int .u64 wd)).setCell ⟨w.heap.size, 2, none⟩ (.string pf)).setCell ⟨w.heap.size, 3, none⟩ (.slice A1 n c1)).setCell ⟨w.heap.size, 4, none⟩ (.slice A2 n c2)).setCell ⟨w.heap.size, 0, none⟩ (.int .i64 to)).setCell ⟨w.heap.size, 1, none⟩ (.int .u64 0)).heap[w.heap.size]? = some (.cells #[.int .i64 to, .int .u64 0, .string pf, .slice A1 n c1, .slice A2 n c2] 28 (0, 0)) := heap_setCell_same _ _ 1 _ _ _ g6
       have o0 := cell_of g7 0
       have o1 := cell_of g7 1
       have o2 := cell_of g7 2
       have o3 := cell_of g7 3
       have o4 := cell_of g7 4
       have g8 : (((((((w2.setCell ⟨w.heap.size, 0, none⟩ (.int .i64 kd)).setCell ⟨w.heap.size, 1, none⟩ (.int .u64 wd)).setCell ⟨w.heap.size, 2, none⟩ (.string pf)).setCell ⟨w.heap.size, 3, none⟩ (.slice A1 n c1)).setCell ⟨w.heap.size, 4, none⟩ (.slice A2 n c2)).setCell ⟨w.heap.size, 0, none⟩ (.int .i64 to)).setCell ⟨w.heap.size, 1, none⟩ (.int .u64 0)).heap[w.heap.size + 1]? = some (.cells #[.int .i64 0, .int .u64 0, .string ⟨#[]⟩, .slice none 0 0, .slice none 0 0] 28 (0, 0)) := by
         refine heap_far ?_ (heap_far ?_ (heap_far ?_ (heap_far ?_ (heap_far ?_ (heap_far ?_ (heap_far ?_ g1)))))) <;> (show w.heap.size + 1 ≠ w.heap.size; omega)
       have u0 := cell_of g8 0
       have u1 := cell_of g8 1
       have u2 := cell_of g8 2
       have u3 := cell_of g8 3
       have u4 := cell_of g8 4
       have y0 := frozen_of g8 0
       have y1 := frozen_of g8 1
       have y2 := frozen_of g8 2
       have y3 := frozen_of g8 3
       have y4 := frozen_of g8 4
       have HG8 := Lib.hid g8
       clear hm1 hm2 hb2 g0 g1 g5 g6 g7 g8 k0 k1 k2 k3 k4)
    | fail)
  have h12 : ((((((((((((w2.setCell ⟨w.heap.size, 0, none⟩ (.int .i64 kd)).setCell ⟨w.heap.size, 1, none⟩ (.int .u64 wd)).setCell ⟨w.heap.size, 2, none⟩ (.string pf)).setCell ⟨w.heap.size, 3, none⟩ (.slice A1 n c1)).setCell ⟨w.heap.size, 4, none⟩ (.slice A2 n c2)).setCell ⟨w.heap.size, 0, none⟩ (.int .i64 to)).setCell ⟨w.heap.size, 1, none⟩ (.int .u64 0)).setCell ⟨w.heap.size + 1, 0, none⟩ (.int .i64 to)).setCell ⟨w.heap.size + 1, 1, none⟩ (.int .u64 0)).setCell ⟨w.heap.size + 1, 2, none⟩ (.string pf)).setCell ⟨w.heap.size + 1, 3, none⟩ (.slice A1 n c1)).setCell ⟨w.heap.size + 1, 4, none⟩ (.slice A2 n c2)).heap[w.heap.size + 1]? = some (.cells #[.int .i64 to, .int .u64 0, .string pf, .slice A1 n c1, .slice A2 n c2] 28 (0, 0)) := (heap_setCell_same _ _ 4 _ _ (.slice A2 n c2) (heap_setCell_same _ _ 3 _ _ (.slice A1 n c1) (heap_setCell_same _ _ 2 _ _ (.string pf) (heap_setCell_same _ _ 1 _ _ (.int .u64 0) (heap_setCell_same _ _ 0 _ _ (.int .i64 to) HG8.out)))))
  have far : ∀ g, w.heap.size + 2 ≤ g → ((((((((((((w2.setCell ⟨w.heap.size, 0, none⟩ (.int .i64 kd)).setCell ⟨w.heap.size, 1, none⟩ (.int .u64 wd)).setCell ⟨w.heap.size, 2, none⟩ (.string pf)).setCell ⟨w.heap.size, 3, none⟩ (.slice A1 n c1)).setCell ⟨w.heap.size, 4, none⟩ (.slice A2 n c2)).setCell ⟨w.heap.size, 0, none⟩ (.int .i64 to)).setCell ⟨w.heap.size, 1, none⟩ (.int .u64 0)).setCell ⟨w.heap.size + 1, 0, none⟩ (.int .i64 to)).setCell ⟨w.heap.size + 1, 1, none⟩ (.int .u64 0)).setCell ⟨w.heap.size + 1, 2, none⟩ (.string pf)).setCell ⟨w.heap.size + 1, 3, none⟩ (.slice A1 n c1)).setCell ⟨w.heap.size + 1, 4, none⟩ (.slice A2 n c2)).heap[g]? = w2.heap[g]? := fun g hg => by
    refine heap_far ?_ (heap_far ?_ (heap_far ?_ (heap_far ?_ (heap_far ?_ (heap_far ?_ (heap_far ?_ (heap_far ?_ (heap_far ?_ (heap_far ?_ (heap_far ?_ (heap_far ?_ (rfl))))))))))))
    · show g ≠ w.heap.size + 1; omega
    · show g ≠ w.heap.size + 1; omega
    · show g ≠ w.heap.size + 1; omega
    · show g ≠ w.heap.size + 1; omega
    · show g ≠ w.heap.size + 1; omega
    · show g ≠ w.heap.size; omega
    · show g ≠ w.heap.size; omega
    · show g ≠ w.heap.size; omega
    · show g ≠ w.heap.size; omega
    · show g ≠ w.heap.size; omega
    · show g ≠ w.heap.size; omega
    · show g ≠ w.heap.size; omega
  have HBB : Below w.heap.size w w1 := HBW.out.trans (HB1.out.mono (by rw [HSZ.out]; omega))
  have bel : Below w.heap.size w ((((((((((((w2.setCell ⟨w.heap.size, 0, none⟩ (.int .i64 kd)).setCell ⟨w.heap.size, 1, none⟩ (.int .u64 wd)).setCell ⟨w.heap.size, 2, none⟩ (.string pf)).setCell ⟨w.heap.size, 3, none⟩ (.slice A1 n c1)).setCell ⟨w.heap.size, 4, none⟩ (.slice A2 n c2)).setCell ⟨w.heap.size, 0, none⟩ (.int .i64 to)).setCell ⟨w.heap.size, 1, none⟩ (.int .u64 0)).setCell ⟨w.heap.size + 1, 0, none⟩ (.int .i64 to)).setCell ⟨w.heap.size + 1, 1, none⟩ (.int .u64 0)).setCell ⟨w.heap.size + 1, 2, none⟩ (.string pf)).setCell ⟨w.heap.size + 1, 3, none⟩ (.slice A1 n c1)).setCell ⟨w.heap.size + 1, 4, none⟩ (.slice A2 n c2)) :=
    (((((((((((((HBB.trans (HB2.out.mono (by have := HS1.out; omega))).setCell (p := ⟨w.heap.size, 0, none⟩) (Nat.le_refl _) _).setCell (p := ⟨w.heap.size, 1, none⟩) (Nat.le_refl _) _).setCell (p := ⟨w.heap.size, 2, none⟩) (Nat.le_refl _) _).setCell (p := ⟨w.heap.size, 3, none⟩) (Nat.le_refl _) _).setCell (p := ⟨w.heap.size, 4, none⟩) (Nat.le_refl _) _).setCell (p := ⟨w.heap.size, 0, none⟩) (Nat.le_refl _) _).setCell (p := ⟨w.heap.size, 1, none⟩) (Nat.le_refl _) _).setCell (p := ⟨w.heap.size + 1, 0, none⟩) (Nat.le_succ _) _).setCell (p := ⟨w.heap.size + 1, 1, none⟩) (Nat.le_succ _) _).setCell (p := ⟨w.heap.size + 1, 2, none⟩) (Nat.le_succ _) _).setCell (p := ⟨w.heap.size + 1, 3, none⟩) (Nat.le_succ _) _).setCell (p := ⟨w.heap.size + 1, 4, none⟩) (Nat.le_succ _) _)
  clear j0 j1 j2 j3 j4 q0 q1 q2 q3 q4 m0 n0 m1 n1 o0 o1 o2 o3 o4 u0 u1 u2 u3 u4 y0 y1 y2 y3 y4
  generalize ((((((((((((w2.setCell ⟨w.heap.size, 0, none⟩ (.int .i64 kd)).setCell ⟨w.heap.size, 1, none⟩ (.int .u64 wd)).setCell ⟨w.heap.size, 2, none⟩ (.string pf)).setCell ⟨w.heap.size, 3, none⟩ (.slice A1 n c1)).setCell ⟨w.heap.size, 4, none⟩ (.slice A2 n c2)).setCell ⟨w.heap.size, 0, none⟩ (.int .i64 to)).setCell ⟨w.heap.size, 1, none⟩ (.int .u64 0)).setCell ⟨w.heap.size + 1, 0, none⟩ (.int .i64 to)).setCell ⟨w.heap.size + 1, 1, none⟩ (.int .u64 0)).setCell ⟨w.heap.size + 1, 2, none⟩ (.string pf)).setCell ⟨w.heap.size + 1, 3, none⟩ (.slice A1 n c1)).setCell ⟨w.heap.size + 1, 4, none⟩ (.slice A2 n c2)) = w5 at *
  have e0 : w5.cell? ⟨w.heap.size + 1, 0, none⟩ = some (.int .i64 to) := cell_of h12 0
  have e1 : w5.cell? ⟨w.heap.size + 1, 1, none⟩ = some (.int .u64 0) := cell_of h12 1
  have e2 : w5.cell? ⟨w.heap.size + 1, 2, none⟩ = some (.string pf) := cell_of h12 2
  have e3 : w5.cell? ⟨w.heap.size + 1, 3, none⟩ = some (.slice A1 n c1) := cell_of h12 3
  have e4 : w5.cell? ⟨w.heap.size + 1, 4, none⟩ = some (.slice A2 n c2) := cell_of h12 4
  exact bodyPost_ret (v := .tuple #[nodeV to 0 pf A1 c1 A2 c2 n, .bool true]) (by simp [results, Try.results11, go_sem, e0, e1, e2, e3, e4, nodeV]) rfl
    ⟨_, rfl, A1, c1, A2, c2, rfl,
      (HM1.out.same fun g hg => far g (by have := (HM1.out.lt g hg).1; have := HS1.out; omega)).lower (by have := HS1.out; omega),
      (HM2.out.same fun g hg => far g (by have := (HM2.out.lt g hg).1; have := HS1.out; omega)).lower (by have := HS1.out; omega), bel⟩
end Go.Proofs.Ytononinmjijhoaa
