/-
  node.With at a right node and a ref: a new child where there is room, and where there is none; conditions: lengths.
-/
import Derived.Test.YtononinmjijhoaaNda
namespace Go.Proofs.Ytononinmjijhoaa
open Go.RowKit Go.WideShapes Go.ChangeShapes
set_option linter.all false
set_option maxRecDepth 100000 in
set_option maxHeartbeats 3200000 in
theorem with_full (kd wd : Int) (pf : ByteArray) (A : Option Addr) (c : Nat) (A' : Option Addr) (c' n : Nat) (xs ys : List Int) (b kid s g : Int) (l : Bool) (w : World) (h : NodeL kd wd pf xs ys n) (hn : n ≤ 256) (hk : kid = refV s g l) (h0 : 0 ≤ s) (h1 : s < 1024) (h2 : 1 ≤ g) (h3 : g ≤ 1073741824) (hthere : isN b xs = false) (hf : (n : Int) = highV kd)
    (hx : Reads w w.heap.size 1 A n (xs.map (Value.int .u8))) (hy : Reads w w.heap.size 1 A' n (ys.map (Value.int .i64))) :
    Calls Try.prog 19 #[nodeV kd wd pf A c A' c' n, .int .u8 b, .int .i64 kid] w fun e w' => e = .returned (.tuple #[nodeV 0 0 ⟨#[]⟩ none 0 none 0 0, .bool false]) ∧ Below w.heap.size w w' := by
  obtain ⟨wb, hwb⟩ : ∃ wb, (w.alloc (.cells #[.int .i64 kd, .int .u64 wd, .string pf, .slice A n c, .slice A' n c'] 28)).alloc (.cells #[.int .i64 0, .int .u64 0, .string ⟨#[]⟩, .slice none 0 0, .slice none 0 0] 28) = wb := ⟨_, rfl⟩
  have HSZ : Hid (wb.heap.size = w.heap.size + 2) := Lib.hid (by rw [← hwb]; simp)
  have HBW : Hid (Below w.heap.size w wb) := Lib.hid (by rw [← hwb]; exact ((Below.refl _ _).alloc (Nat.le_refl _) _).alloc (by simp) _)
  have HBOX : Hid (Bx w.heap.size #[.int .i64 kd, .int .u64 wd, .string pf, .slice A n c, .slice A' n c'] #[.int .i64 0, .int .u64 0, .string ⟨#[]⟩, .slice none 0 0, .slice none 0 0] wb) := Lib.hid (by
    rw [← hwb]
    refine ⟨?_, ?_⟩
    · rw [heap_alloc_old _ _ (by simp)]; exact heap_alloc_new _ _
    · have := heap_alloc_new (w.alloc (.cells #[.int .i64 kd, .int .u64 wd, .string pf, .slice A n c, .slice A' n c'] 28)) (.cells #[.int .i64 0, .int .u64 0, .string ⟨#[]⟩, .slice none 0 0, .slice none 0 0] 28)
      simpa using this)
  have HX : Hid (Reads wb wb.heap.size 1 A n (xs.map (Value.int .u8))) := Lib.hid ((hx.below HBW.out).more HBW.out.size)
  have HY : Hid (Reads wb wb.heap.size 1 A' n (ys.map (Value.int .i64))) := Lib.hid ((hy.below HBW.out).more HBW.out.size)
  have LX : Hid (xs.length = n) := Lib.hid (klen hx)
  have LY : Hid (ys.length = n) := Lib.hid (klen hy)
  have HW := Lib.hid hwb
  have HL := Lib.hid h
  have HK := Lib.hid hk
  have HT := Lib.hid hthere
  have HF := Lib.hid hf
  have HG := Lib.hid (And.intro h0 (And.intro h1 (And.intro h2 h3)))
  obtain ⟨i, hii⟩ : ∃ i, i = lowN b xs := ⟨_, rfl⟩
  have HI := Lib.hid hii
  have hi : i ≤ n := by rw [hii, ← LX.out]; exact low_le b xs
  clear hii
  have F1 : Hid True := trivial
  clear hx hy h hwb hk hthere hf h0 h1 h2 h3
  unfold nodeV
  go_enter Try.func19, Try.ntmps19
  go_wp2_with (first
    | (go_at_call 21; clear F1; rw [HW.out]; refine (right_any kd wd pf A c A' c' n xs ys wb HL.out hn HX.out HY.out).mono ?_
       rintro e w1 ⟨rfl, hb1⟩
       have HB1 := Lib.hid hb1
       have HX1 : Hid (Reads w1 w1.heap.size 1 A n (xs.map (Value.int .u8))) := Lib.hid ((HX.out.below HB1.out).more HB1.out.size)
       have HY1 : Hid (Reads w1 w1.heap.size 1 A' n (ys.map (Value.int .i64))) := Lib.hid ((HY.out.below HB1.out).more HB1.out.size)
       have HH1 : Hid (w1.heap[w.heap.size]? = some (.cells #[.int .i64 kd, .int .u64 wd, .string pf, .slice A n c, .slice A' n c'] 28 (0, 0))) := Lib.hid ((heap_below HB1.out (by rw [HSZ.out]; omega)).trans HBOX.out.1)
       have HR1 : Hid (w1.heap[w.heap.size + 1]? = some (.cells #[.int .i64 0, .int .u64 0, .string ⟨#[]⟩, .slice none 0 0, .slice none 0 0] 28 (0, 0))) := Lib.hid ((heap_below HB1.out (by rw [HSZ.out]; omega)).trans HBOX.out.2)
       have HS1 : Hid (w.heap.size + 2 ≤ w1.heap.size) := Lib.hid (by have := HB1.out.size; rw [HSZ.out] at this; exact this)
       have k0 := cell_of HH1.out 0
       have k1 := cell_of HH1.out 1
       have k2 := cell_of HH1.out 2
       have k3 := cell_of HH1.out 3
       have k4 := cell_of HH1.out 4
       have F2 : Hid True := trivial
       clear hb1)
    | (go_at_call 29; rw [HK.out]; refine (noRef_any s g l HG.out.1 HG.out.2.1 HG.out.2.2.1 HG.out.2.2.2 _).mono ?_; rintro e w' ⟨rfl, hw'⟩; replace hw' := hw'.symm; subst hw'; rw [← HK.out])
    | (go_at_call 27; clear F2; refine (sep_any kd wd pf A c A' c' n xs ys w1 hn HX1.out HY1.out).mono ?_
       rintro e w2 ⟨vv, rfl, A1, c1, A2, c2, rfl, hm1, hm2, hb2⟩
       unfold nodeV
       have HB2 := Lib.hid hb2
       have g0 : w2.heap[w.heap.size]? = some (.cells #[.int .i64 kd, .int .u64 wd, .string pf, .slice A n c, .slice A' n c'] 28 (0, 0)) := (heap_below hb2 (by have := HS1.out; omega)).trans HH1.out
       have g1 : w2.heap[w.heap.size + 1]? = some (.cells #[.int .i64 0, .int .u64 0, .string ⟨#[]⟩, .slice none 0 0, .slice none 0 0] 28 (0, 0)) := (heap_below hb2 (by have := HS1.out; omega)).trans HR1.out
       have j0 := cell_of g0 0
       have q0 := frozen_of g0 0
       have j1 := cell_of g0 1
       have q1 := frozen_of g0 1
       have j2 := cell_of g0 2
       have q2 := frozen_of g0 2
       have j3 := cell_of g0 3
       have q3 := frozen_of g0 3
       have j4 := cell_of g0 4
       have q4 := frozen_of g0 4
       have g5 : (((((w2.setCell ⟨w.heap.size, 0, none⟩ (.int .i64 kd)).setCell ⟨w.heap.size, 1, none⟩ (.int .u64 wd)).setCell ⟨w.heap.size, 2, none⟩ (.string pf)).setCell ⟨w.heap.size, 3, none⟩ (.slice A1 n c1)).setCell ⟨w.heap.size, 4, none⟩ (.slice A2 n c2)).heap[w.heap.size]? = some (.cells #[.int .i64 kd, .int .u64 wd, .string pf, .slice A1 n c1, .slice A2 n c2] 28 (0, 0)) := (heap_setCell_same _ _ 4 _ _ (.slice A2 n c2) (heap_setCell_same _ _ 3 _ _ (.slice A1 n c1) (heap_setCell_same _ _ 2 _ _ (.string pf) (heap_setCell_same _ _ 1 _ _ (.int .u64 wd) (heap_setCell_same _ _ 0 _ _ (.int .i64 kd) g0)))))
       have g6 : (((((w2.setCell ⟨w.heap.size, 0, none⟩ (.int .i64 kd)).setCell ⟨w.heap.size, 1, none⟩ (.int .u64 wd)).setCell ⟨w.heap.size, 2, none⟩ (.string pf)).setCell ⟨w.heap.size, 3, none⟩ (.slice A1 n c1)).setCell ⟨w.heap.size, 4, none⟩ (.slice A2 n c2)).heap[w.heap.size + 1]? = some (.cells #[.int .i64 0, .int .u64 0, .string ⟨#[]⟩, .slice none 0 0, .slice none 0 0] 28 (0, 0)) := by
         refine heap_far ?_ (heap_far ?_ (heap_far ?_ (heap_far ?_ (heap_far ?_ g1)))) <;> (show w.heap.size + 1 ≠ w.heap.size; omega)
       have far : ∀ g, w.heap.size + 2 ≤ g → (((((w2.setCell ⟨w.heap.size, 0, none⟩ (.int .i64 kd)).setCell ⟨w.heap.size, 1, none⟩ (.int .u64 wd)).setCell ⟨w.heap.size, 2, none⟩ (.string pf)).setCell ⟨w.heap.size, 3, none⟩ (.slice A1 n c1)).setCell ⟨w.heap.size, 4, none⟩ (.slice A2 n c2)).heap[g]? = w2.heap[g]? := fun g hg => by
         refine heap_far ?_ (heap_far ?_ (heap_far ?_ (heap_far ?_ (heap_far ?_ rfl)))) <;> (show g ≠ w.heap.size; omega)
       have HB3 : Hid (Below w.heap.size w (((((w2.setCell ⟨w.heap.size, 0, none⟩ (.int .i64 kd)).setCell ⟨w.heap.size, 1, none⟩ (.int .u64 wd)).setCell ⟨w.heap.size, 2, none⟩ (.string pf)).setCell ⟨w.heap.size, 3, none⟩ (.slice A1 n c1)).setCell ⟨w.heap.size, 4, none⟩ (.slice A2 n c2))) := Lib.hid ((((((((HBW.out.trans (HB1.out.mono (by rw [HSZ.out]; omega)))).trans (HB2.out.mono (by have := HS1.out; omega))).setCell (p := ⟨w.heap.size, 0, none⟩) (Nat.le_refl _) _).setCell (p := ⟨w.heap.size, 1, none⟩) (Nat.le_refl _) _).setCell (p := ⟨w.heap.size, 2, none⟩) (Nat.le_refl _) _).setCell (p := ⟨w.heap.size, 3, none⟩) (Nat.le_refl _) _).setCell (p := ⟨w.heap.size, 4, none⟩) (Nat.le_refl _) _)
       have hm3 : Mid (((((w2.setCell ⟨w.heap.size, 0, none⟩ (.int .i64 kd)).setCell ⟨w.heap.size, 1, none⟩ (.int .u64 wd)).setCell ⟨w.heap.size, 2, none⟩ (.string pf)).setCell ⟨w.heap.size, 3, none⟩ (.slice A1 n c1)).setCell ⟨w.heap.size, 4, none⟩ (.slice A2 n c2)) (w.heap.size + 2) 5 1 (.slice A1 n c1) n (xs.map (Value.int .u8)) := (hm1.same fun g hg => far g (by have := (hm1.lt g hg).1; have := HS1.out; omega)).lower HS1.out
       have hm4 : Mid (((((w2.setCell ⟨w.heap.size, 0, none⟩ (.int .i64 kd)).setCell ⟨w.heap.size, 1, none⟩ (.int .u64 wd)).setCell ⟨w.heap.size, 2, none⟩ (.string pf)).setCell ⟨w.heap.size, 3, none⟩ (.slice A1 n c1)).setCell ⟨w.heap.size, 4, none⟩ (.slice A2 n c2)) (w.heap.size + 2) 3 1 (.slice A2 n c2) n (ys.map (Value.int .i64)) := (hm2.same fun g hg => far g (by have := (hm2.lt g hg).1; have := HS1.out; omega)).lower HS1.out
       have HM3 := Lib.hid hm3
       have HM4 := Lib.hid hm4
       have HS3 : Hid (w.heap.size + 2 ≤ (((((w2.setCell ⟨w.heap.size, 0, none⟩ (.int .i64 kd)).setCell ⟨w.heap.size, 1, none⟩ (.int .u64 wd)).setCell ⟨w.heap.size, 2, none⟩ (.string pf)).setCell ⟨w.heap.size, 3, none⟩ (.slice A1 n c1)).setCell ⟨w.heap.size, 4, none⟩ (.slice A2 n c2)).heap.size) := Lib.hid (by have h1 := HS1.out; have h2 := hb2.size; simp; omega)
       have HH3 := Lib.hid g5
       have HR3 := Lib.hid g6
       have m3 := cell_of g5 3
       clear hm1 hm2 hm3 hm4 hb2 g0 g1 g5 g6 far k0 k1 k2 k3 k4
       have F3 : Hid True := trivial)
    | (go_at_call 30; clear F3; refine (bs_any A1 n c1 xs b _ (HM3.out.reads) (by omega) HL.out.asc).mono ?_
       rintro e w3 ⟨rfl, hw3⟩
       replace hw3 := hw3.symm
       rw [HT.out]
       generalize (((((w2.setCell ⟨w.heap.size, 0, none⟩ (.int .i64 kd)).setCell ⟨w.heap.size, 1, none⟩ (.int .u64 wd)).setCell ⟨w.heap.size, 2, none⟩ (.string pf)).setCell ⟨w.heap.size, 3, none⟩ (.slice A1 n c1)).setCell ⟨w.heap.size, 4, none⟩ (.slice A2 n c2)) = wq at *
       subst hw3
       rw [← HI.out]
       have m0 := cell_of HH3.out 0
       have F4 : Hid True := trivial)
    | fail)
  have hf := HF.out
  go_quiet ((go_at_call 12; exact Calls.quiet_of_same (high_any kd _)))
  rw [← hf]
  have u0 := cell_of HR3.out 0
  have y0 := frozen_of HR3.out 0
  have u1 := cell_of HR3.out 1
  have y1 := frozen_of HR3.out 1
  have u2 := cell_of HR3.out 2
  have y2 := frozen_of HR3.out 2
  have u3 := cell_of HR3.out 3
  have y3 := frozen_of HR3.out 3
  have u4 := cell_of HR3.out 4
  have y4 := frozen_of HR3.out 4
  go_wp2
  have hr : (wq.drewN nq).heap[w.heap.size + 1]? = some (.cells #[.int .i64 0, .int .u64 0, .string ⟨#[]⟩, .slice none 0 0, .slice none 0 0] 28 (0, 0)) := HR3.out
  have h12 := (heap_setCell_same _ _ 4 _ _ (.slice none 0 0) (heap_setCell_same _ _ 3 _ _ (.slice none 0 0) (heap_setCell_same _ _ 2 _ _ (.string ⟨#[]⟩) (heap_setCell_same _ _ 1 _ _ (.int .u64 0) (heap_setCell_same _ _ 0 _ _ (.int .i64 0) hr)))))
  have bel : Below w.heap.size w ((((((wq.drewN nq).setCell ⟨w.heap.size + 1, 0, none⟩ (.int .i64 0)).setCell ⟨w.heap.size + 1, 1, none⟩ (.int .u64 0)).setCell ⟨w.heap.size + 1, 2, none⟩ (.string ⟨#[]⟩)).setCell ⟨w.heap.size + 1, 3, none⟩ (.slice none 0 0)).setCell ⟨w.heap.size + 1, 4, none⟩ (.slice none 0 0)) := ((((((belowN HB3.out nq).setCell (p := ⟨w.heap.size + 1, 0, none⟩) (Nat.le_succ _) _).setCell (p := ⟨w.heap.size + 1, 1, none⟩) (Nat.le_succ _) _).setCell (p := ⟨w.heap.size + 1, 2, none⟩) (Nat.le_succ _) _).setCell (p := ⟨w.heap.size + 1, 3, none⟩) (Nat.le_succ _) _).setCell (p := ⟨w.heap.size + 1, 4, none⟩) (Nat.le_succ _) _)
  generalize ((((((wq.drewN nq).setCell ⟨w.heap.size + 1, 0, none⟩ (.int .i64 0)).setCell ⟨w.heap.size + 1, 1, none⟩ (.int .u64 0)).setCell ⟨w.heap.size + 1, 2, none⟩ (.string ⟨#[]⟩)).setCell ⟨w.heap.size + 1, 3, none⟩ (.slice none 0 0)).setCell ⟨w.heap.size + 1, 4, none⟩ (.slice none 0 0)) = w5 at *
  have e0 : w5.cell? ⟨w.heap.size + 1, 0, none⟩ = some (.int .i64 0) := cell_of h12 0
  have e1 : w5.cell? ⟨w.heap.size + 1, 1, none⟩ = some (.int .u64 0) := cell_of h12 1
  have e2 : w5.cell? ⟨w.heap.size + 1, 2, none⟩ = some (.string ⟨#[]⟩) := cell_of h12 2
  have e3 : w5.cell? ⟨w.heap.size + 1, 3, none⟩ = some (.slice none 0 0) := cell_of h12 3
  have e4 : w5.cell? ⟨w.heap.size + 1, 4, none⟩ = some (.slice none 0 0) := cell_of h12 4
  exact bodyPost_ret (v := .tuple #[nodeV 0 0 ⟨#[]⟩ none 0 none 0 0, .bool false]) (by simp [results, Try.results19, go_sem, e0, e1, e2, e3, e4, nodeV]) rfl ⟨rfl, bel⟩
theorem Ran.keep {v v' : Value} {w w' : World} (h : Ran v v' w w') {k : Nat} (hk : k < w.heap.size) (hne : some k ≠ v.ownBlock) {o : Option Obj} (ho : w.heap[k]? = o) : w'.heap[k]? = o := (h.grown.block k hk hne).trans ho
theorem Ran.below {v v' : Value} {w w' : World} (h : Ran v v' w w') {B : Nat} (hB : B ≤ w.heap.size) (hv : ∀ g, v.ownBlock = some g → B ≤ g) : Below B w w' :=
  ⟨h.grown.os, h.grown.tape, h.grown.output, h.grown.size, fun b hb => h.grown.block b (by omega) fun e => by have := hv b e.symm; omega⟩
theorem map_ins (f : Int → Value) (xs : List Int) (x : Int) (i : Nat) : (xs.map f).take i ++ f x :: (xs.map f).drop i = (xs.take i ++ x :: xs.drop i).map f := by simp
set_option maxRecDepth 100000 in
set_option maxHeartbeats 3200000 in
theorem with_new (kd wd : Int) (pf : ByteArray) (A : Option Addr) (c : Nat) (A' : Option Addr) (c' n : Nat) (xs ys : List Int) (b kid s g : Int) (l : Bool) (w : World) (h : NodeL kd wd pf xs ys n) (hn : n ≤ 256) (hk : kid = refV s g l) (h0 : 0 ≤ s) (h1 : s < 1024) (h2 : 1 ≤ g) (h3 : g ≤ 1073741824) (hthere : isN b xs = false) (hf : (n : Int) < highV kd)
    (hx : Reads w w.heap.size 1 A n (xs.map (Value.int .u8))) (hy : Reads w w.heap.size 1 A' n (ys.map (Value.int .i64))) :
    Calls Try.prog 19 #[nodeV kd wd pf A c A' c' n, .int .u8 b, .int .i64 kid] w fun e w' => ∃ v, e = .returned (.tuple #[v, .bool true]) ∧ NV w.heap.size kd wd pf (xs.take (lowN b xs) ++ b :: xs.drop (lowN b xs)) (ys.take (lowN b xs) ++ kid :: ys.drop (lowN b xs)) (n + 1) w v w' := by
  obtain ⟨wb, hwb⟩ : ∃ wb, (w.alloc (.cells #[.int .i64 kd, .int .u64 wd, .string pf, .slice A n c, .slice A' n c'] 28)).alloc (.cells #[.int .i64 0, .int .u64 0, .string ⟨#[]⟩, .slice none 0 0, .slice none 0 0] 28) = wb := ⟨_, rfl⟩
  have HSZ : Hid (wb.heap.size = w.heap.size + 2) := Lib.hid (by rw [← hwb]; simp)
  have HBW : Hid (Below w.heap.size w wb) := Lib.hid (by rw [← hwb]; exact ((Below.refl _ _).alloc (Nat.le_refl _) _).alloc (by simp) _)
  have HBOX : Hid (Bx w.heap.size #[.int .i64 kd, .int .u64 wd, .string pf, .slice A n c, .slice A' n c'] #[.int .i64 0, .int .u64 0, .string ⟨#[]⟩, .slice none 0 0, .slice none 0 0] wb) := Lib.hid (by
    rw [← hwb]
    refine ⟨?_, ?_⟩
    · rw [heap_alloc_old _ _ (by simp)]; exact heap_alloc_new _ _
    · have := heap_alloc_new (w.alloc (.cells #[.int .i64 kd, .int .u64 wd, .string pf, .slice A n c, .slice A' n c'] 28)) (.cells #[.int .i64 0, .int .u64 0, .string ⟨#[]⟩, .slice none 0 0, .slice none 0 0] 28)
      simpa using this)
  have HX : Hid (Reads wb wb.heap.size 1 A n (xs.map (Value.int .u8))) := Lib.hid ((hx.below HBW.out).more HBW.out.size)
  have HY : Hid (Reads wb wb.heap.size 1 A' n (ys.map (Value.int .i64))) := Lib.hid ((hy.below HBW.out).more HBW.out.size)
  have LX : Hid (xs.length = n) := Lib.hid (klen hx)
  have LY : Hid (ys.length = n) := Lib.hid (klen hy)
  have HW := Lib.hid hwb
  have HL := Lib.hid h
  have HK := Lib.hid hk
  have HT := Lib.hid hthere
  have HF := Lib.hid hf
  have HG := Lib.hid (And.intro h0 (And.intro h1 (And.intro h2 h3)))
  obtain ⟨i, hii⟩ : ∃ i, i = lowN b xs := ⟨_, rfl⟩
  have HI := Lib.hid hii
  have hi : i ≤ n := by rw [hii, ← LX.out]; exact low_le b xs
  rw [← hii]
  clear hii
  have F1 : Hid True := trivial
  clear hx hy h hwb hk hthere hf h0 h1 h2 h3
  unfold nodeV
  go_enter Try.func19, Try.ntmps19
  go_wp2_with (first
    | (go_at_call 21; clear F1; rw [HW.out]; refine (right_any kd wd pf A c A' c' n xs ys wb HL.out hn HX.out HY.out).mono ?_
       rintro e w1 ⟨rfl, hb1⟩
       have HB1 := Lib.hid hb1
       have HX1 : Hid (Reads w1 w1.heap.size 1 A n (xs.map (Value.int .u8))) := Lib.hid ((HX.out.below HB1.out).more HB1.out.size)
       have HY1 : Hid (Reads w1 w1.heap.size 1 A' n (ys.map (Value.int .i64))) := Lib.hid ((HY.out.below HB1.out).more HB1.out.size)
       have HH1 : Hid (w1.heap[w.heap.size]? = some (.cells #[.int .i64 kd, .int .u64 wd, .string pf, .slice A n c, .slice A' n c'] 28 (0, 0))) := Lib.hid ((heap_below HB1.out (by rw [HSZ.out]; omega)).trans HBOX.out.1)
       have HR1 : Hid (w1.heap[w.heap.size + 1]? = some (.cells #[.int .i64 0, .int .u64 0, .string ⟨#[]⟩, .slice none 0 0, .slice none 0 0] 28 (0, 0))) := Lib.hid ((heap_below HB1.out (by rw [HSZ.out]; omega)).trans HBOX.out.2)
       have HS1 : Hid (w.heap.size + 2 ≤ w1.heap.size) := Lib.hid (by have := HB1.out.size; rw [HSZ.out] at this; exact this)
       have k0 := cell_of HH1.out 0
       have k1 := cell_of HH1.out 1
       have k2 := cell_of HH1.out 2
       have k3 := cell_of HH1.out 3
       have k4 := cell_of HH1.out 4
       have F2 : Hid True := trivial
       clear hb1)
    | (go_at_call 29; rw [HK.out]; refine (noRef_any s g l HG.out.1 HG.out.2.1 HG.out.2.2.1 HG.out.2.2.2 _).mono ?_; rintro e w' ⟨rfl, hw'⟩; replace hw' := hw'.symm; subst hw'; rw [← HK.out])
    | (go_at_call 27; clear F2; refine (sep_any kd wd pf A c A' c' n xs ys w1 hn HX1.out HY1.out).mono ?_
       rintro e w2 ⟨vv, rfl, A1, c1, A2, c2, rfl, hm1, hm2, hb2⟩
       unfold nodeV
       have HB2 := Lib.hid hb2
       have g0 : w2.heap[w.heap.size]? = some (.cells #[.int .i64 kd, .int .u64 wd, .string pf, .slice A n c, .slice A' n c'] 28 (0, 0)) := (heap_below hb2 (by have := HS1.out; omega)).trans HH1.out
       have g1 : w2.heap[w.heap.size + 1]? = some (.cells #[.int .i64 0, .int .u64 0, .string ⟨#[]⟩, .slice none 0 0, .slice none 0 0] 28 (0, 0)) := (heap_below hb2 (by have := HS1.out; omega)).trans HR1.out
       have j0 := cell_of g0 0
       have q0 := frozen_of g0 0
       have j1 := cell_of g0 1
       have q1 := frozen_of g0 1
       have j2 := cell_of g0 2
       have q2 := frozen_of g0 2
       have j3 := cell_of g0 3
       have q3 := frozen_of g0 3
       have j4 := cell_of g0 4
       have q4 := frozen_of g0 4
       have g5 : (((((w2.setCell ⟨w.heap.size, 0, none⟩ (.int .i64 kd)).setCell ⟨w.heap.size, 1, none⟩ (.int .u64 wd)).setCell ⟨w.heap.size, 2, none⟩ (.string pf)).setCell ⟨w.heap.size, 3, none⟩ (.slice A1 n c1)).setCell ⟨w.heap.size, 4, none⟩ (.slice A2 n c2)).heap[w.heap.size]? = some (.cells #[.int .i64 kd, .int .u64 wd, .string pf, .slice A1 n c1, .slice A2 n c2] 28 (0, 0)) := (heap_setCell_same _ _ 4 _ _ (.slice A2 n c2) (heap_setCell_same _ _ 3 _ _ (.slice A1 n c1) (heap_setCell_same _ _ 2 _ _ (.string pf) (heap_setCell_same _ _ 1 _ _ (.int .u64 wd) (heap_setCell_same _ _ 0 _ _ (.int .i64 kd) g0)))))
       have g6 : (((((w2.setCell ⟨w.heap.size, 0, none⟩ (.int .i64 kd)).setCell ⟨w.heap.size, 1, none⟩ (.int .u64 wd)).setCell ⟨w.heap.size, 2, none⟩ (.string pf)).setCell ⟨w.heap.size, 3, none⟩ (.slice A1 n c1)).setCell ⟨w.heap.size, 4, none⟩ (.slice A2 n c2)).heap[w.heap.size + 1]? = some (.cells #[.int .i64 0, .int .u64 0, .string ⟨#[]⟩, .slice none 0 0, .slice none 0 0] 28 (0, 0)) := by
         refine heap_far ?_ (heap_far ?_ (heap_far ?_ (heap_far ?_ (heap_far ?_ g1)))) <;> (show w.heap.size + 1 ≠ w.heap.size; omega)
       have far : ∀ g, w.heap.size + 2 ≤ g → (((((w2.setCell ⟨w.heap.size, 0, none⟩ (.int .i64 kd)).setCell ⟨w.heap.size, 1, none⟩ (.int .u64 wd)).setCell ⟨w.heap.size, 2, none⟩ (.string pf)).setCell ⟨w.heap.size, 3, none⟩ (.slice A1 n c1)).setCell ⟨w.heap.size, 4, none⟩ (.slice A2 n c2)).heap[g]? = w2.heap[g]? := fun g hg => by
         refine heap_far ?_ (heap_far ?_ (heap_far ?_ (heap_far ?_ (heap_far ?_ rfl)))) <;> (show g ≠ w.heap.size; omega)
       have HB3 : Hid (Below w.heap.size w (((((w2.setCell ⟨w.heap.size, 0, none⟩ (.int .i64 kd)).setCell ⟨w.heap.size, 1, none⟩ (.int .u64 wd)).setCell ⟨w.heap.size, 2, none⟩ (.string pf)).setCell ⟨w.heap.size, 3, none⟩ (.slice A1 n c1)).setCell ⟨w.heap.size, 4, none⟩ (.slice A2 n c2))) := Lib.hid ((((((((HBW.out.trans (HB1.out.mono (by rw [HSZ.out]; omega)))).trans (HB2.out.mono (by have := HS1.out; omega))).setCell (p := ⟨w.heap.size, 0, none⟩) (Nat.le_refl _) _).setCell (p := ⟨w.heap.size, 1, none⟩) (Nat.le_refl _) _).setCell (p := ⟨w.heap.size, 2, none⟩) (Nat.le_refl _) _).setCell (p := ⟨w.heap.size, 3, none⟩) (Nat.le_refl _) _).setCell (p := ⟨w.heap.size, 4, none⟩) (Nat.le_refl _) _)
       have hm3 : Mid (((((w2.setCell ⟨w.heap.size, 0, none⟩ (.int .i64 kd)).setCell ⟨w.heap.size, 1, none⟩ (.int .u64 wd)).setCell ⟨w.heap.size, 2, none⟩ (.string pf)).setCell ⟨w.heap.size, 3, none⟩ (.slice A1 n c1)).setCell ⟨w.heap.size, 4, none⟩ (.slice A2 n c2)) (w.heap.size + 2) 5 1 (.slice A1 n c1) n (xs.map (Value.int .u8)) := (hm1.same fun g hg => far g (by have := (hm1.lt g hg).1; have := HS1.out; omega)).lower HS1.out
       have hm4 : Mid (((((w2.setCell ⟨w.heap.size, 0, none⟩ (.int .i64 kd)).setCell ⟨w.heap.size, 1, none⟩ (.int .u64 wd)).setCell ⟨w.heap.size, 2, none⟩ (.string pf)).setCell ⟨w.heap.size, 3, none⟩ (.slice A1 n c1)).setCell ⟨w.heap.size, 4, none⟩ (.slice A2 n c2)) (w.heap.size + 2) 3 1 (.slice A2 n c2) n (ys.map (Value.int .i64)) := (hm2.same fun g hg => far g (by have := (hm2.lt g hg).1; have := HS1.out; omega)).lower HS1.out
       have HM3 := Lib.hid hm3
       have HM4 := Lib.hid hm4
       have HS3 : Hid (w.heap.size + 2 ≤ (((((w2.setCell ⟨w.heap.size, 0, none⟩ (.int .i64 kd)).setCell ⟨w.heap.size, 1, none⟩ (.int .u64 wd)).setCell ⟨w.heap.size, 2, none⟩ (.string pf)).setCell ⟨w.heap.size, 3, none⟩ (.slice A1 n c1)).setCell ⟨w.heap.size, 4, none⟩ (.slice A2 n c2)).heap.size) := Lib.hid (by have h1 := HS1.out; have h2 := hb2.size; simp; omega)
       have HH3 := Lib.hid g5
       have HR3 := Lib.hid g6
       have m3 := cell_of g5 3
       clear hm1 hm2 hm3 hm4 hb2 g0 g1 g5 g6 far k0 k1 k2 k3 k4
       have F3 : Hid True := trivial)
    | (go_at_call 30; clear F3; refine (bs_any A1 n c1 xs b _ (HM3.out.reads) (by omega) HL.out.asc).mono ?_
       rintro e w3 ⟨rfl, hw3⟩
       replace hw3 := hw3.symm
       rw [HT.out]
       generalize (((((w2.setCell ⟨w.heap.size, 0, none⟩ (.int .i64 kd)).setCell ⟨w.heap.size, 1, none⟩ (.int .u64 wd)).setCell ⟨w.heap.size, 2, none⟩ (.string pf)).setCell ⟨w.heap.size, 3, none⟩ (.slice A1 n c1)).setCell ⟨w.heap.size, 4, none⟩ (.slice A2 n c2)) = wq at *
       subst hw3
       rw [← HI.out]
       have m0 := cell_of HH3.out 0
       have F4 : Hid True := trivial)
    | fail)
  have hf := HF.out
  have hf1 : ((n : Int) == highV kd) = false := by simp; omega
  go_quiet ((go_at_call 12; exact Calls.quiet_of_same (high_any kd _)))
  have hi2 : (i : Int) ≤ 256 := by omega
  go_wp2_with (first
    | (go_at_call 31; clear F4
       have HM3a : Hid (Mid ((wq.drewN nq).alloc (.cells #[.int .u8 b] 5)) (w.heap.size + 2) 5 1 (.slice A1 n c1) n (xs.map (Value.int .u8))) := Lib.hid (HM3.out.same fun g hg => heap_alloc_old (wq.drewN nq) _ (HM3.out.lt g hg).2)
       refine (ins_mid_byte (w.heap.size + 2) A1 n c1 i (xs.map (Value.int .u8)) (.int .u8 b) wq.heap.size 1 _ HM3a.out hi (by omega) (by have := HS3.out; simp; omega) (heap_alloc_new (wq.drewN nq) _) (fun g hg => by have := (HM3.out.lt g hg).2; omega) (one_ints .u8 xs) rfl).mono ?_
       rintro e w3 ⟨v3, rfl, hmn, hran⟩
       obtain ⟨A3, c3, rfl⟩ := hmn.form
       have hs1 : wq.heap.size < w3.heap.size := by have := hran.grown.size; simp at this; omega
       have hb4 : Below w.heap.size w w3 := ((belowN HB3.out nq).alloc (by have := HS3.out; show w.heap.size ≤ wq.heap.size; omega) _).trans (hran.below (by have := HS3.out; simp; omega) (fun g hg => by have := (HM3.out.lt g hg).1; omega))
       have t5 : w3.heap[w.heap.size]? = some (.cells #[.int .i64 kd, .int .u64 wd, .string pf, .slice A1 n c1, .slice A2 n c2] 28 (0, 0)) := hran.keep (by have := HS3.out; simp; omega) (fun e => by have := (HM3.out.lt _ e.symm).1; omega) ((heap_alloc_old (wq.drewN nq) _ (by have := HS3.out; show w.heap.size < wq.heap.size; omega)).trans HH3.out)
       have t6 : w3.heap[w.heap.size + 1]? = some (.cells #[.int .i64 0, .int .u64 0, .string ⟨#[]⟩, .slice none 0 0, .slice none 0 0] 28 (0, 0)) := hran.keep (by have := HS3.out; simp; omega) (fun e => by have := (HM3.out.lt _ e.symm).1; omega) ((heap_alloc_old (wq.drewN nq) _ (by have := HS3.out; show w.heap.size + 1 < wq.heap.size; omega)).trans HR3.out)
       have hm6 : Mid w3 (w.heap.size + 2) 3 1 (.slice A2 n c2) n (ys.map (Value.int .i64)) := HM4.out.same fun g hg => hran.keep (by have := (HM4.out.lt g hg).2; simp; omega) (fun e => Mid.apart HM3.out HM4.out e.symm hg rfl) (heap_alloc_old (wq.drewN nq) _ (HM4.out.lt g hg).2)
       have z3 := cell_of t5 3
       have y3 := frozen_of t5 3
       have z4 := cell_of t5 4
       obtain ⟨w4, hw4⟩ : ∃ w4, w3.setCell ⟨w.heap.size, 3, none⟩ (.slice A3 (n + 1) c3) = w4 := ⟨_, rfl⟩
       have HH5 : Hid (w4.heap[w.heap.size]? = some (.cells #[.int .i64 kd, .int .u64 wd, .string pf, .slice A3 (n + 1) c3, .slice A2 n c2] 28 (0, 0))) := Lib.hid (by rw [← hw4]; exact heap_setCell_same _ _ 3 _ _ (.slice A3 (n + 1) c3) t5)
       have HR5 : Hid (w4.heap[w.heap.size + 1]? = some (.cells #[.int .i64 0, .int .u64 0, .string ⟨#[]⟩, .slice none 0 0, .slice none 0 0] 28 (0, 0))) := Lib.hid (by rw [← hw4]; exact heap_far (by show w.heap.size + 1 ≠ w.heap.size; omega) t6)
       have HM5 : Hid (Mid w4 (w.heap.size + 2) 5 1 (.slice A3 (n + 1) c3) (n + 1) ((xs.take i ++ b :: xs.drop i).map (Value.int .u8))) := Lib.hid (by rw [← hw4, ← map_ins]; exact hmn.same fun g hg => heap_far (by have := (hmn.lt g hg).1; show g ≠ w.heap.size; omega) rfl)
       have HM6 : Hid (Mid w4 (w.heap.size + 2) 3 1 (.slice A2 n c2) n (ys.map (Value.int .i64))) := Lib.hid (by rw [← hw4]; exact hm6.same fun g hg => heap_far (by have := (hm6.lt g hg).1; show g ≠ w.heap.size; omega) rfl)
       have HB5 : Hid (Below w.heap.size w w4) := Lib.hid (by rw [← hw4]; exact hb4.setCell (p := ⟨w.heap.size, 3, none⟩) (Nat.le_refl _) _)
       have HS5 : Hid (w4.heap.size = w3.heap.size) := Lib.hid (by rw [← hw4]; simp)
       have HS6 : Hid (w.heap.size + 2 < w4.heap.size) := Lib.hid (by rw [HS5.out]; have := HS3.out; omega)
       have HW4 := Lib.hid hw4
       clear hw4 t5 t6 hm6 hmn hran hb4 hs1
       have F5 : Hid True := trivial)
    | (go_at_call 32; clear F5
       rw [HW4.out, ← HS5.out]
       have HM6a : Hid (Mid (w4.alloc (.cells #[.int .i64 kid] 3)) (w.heap.size + 2) 3 1 (.slice A2 n c2) n (ys.map (Value.int .i64))) := Lib.hid (HM6.out.same fun g hg => heap_alloc_old w4 _ (HM6.out.lt g hg).2)
       refine (ins_mid_int (w.heap.size + 2) A2 n c2 i (ys.map (Value.int .i64)) (.int .i64 kid) w4.heap.size 1 _ HM6a.out hi (by omega) (by have := HS6.out; simp; omega) (heap_alloc_new w4 _) (fun g hg => by have := (HM6.out.lt g hg).2; omega) (one_ints .i64 ys) rfl).mono ?_
       rintro e w5 ⟨v3, rfl, hmn, hran⟩
       obtain ⟨A4, c4, rfl⟩ := hmn.form
       have hb5 : Below w.heap.size w w5 := (HB5.out.alloc (by have := HS6.out; omega) _).trans (hran.below (by have := HS6.out; simp; omega) (fun g hg => by have := (HM6.out.lt g hg).1; omega))
       have t5 : w5.heap[w.heap.size]? = some (.cells #[.int .i64 kd, .int .u64 wd, .string pf, .slice A3 (n + 1) c3, .slice A2 n c2] 28 (0, 0)) := hran.keep (by have := HS6.out; simp; omega) (fun e => by have := (HM6.out.lt _ e.symm).1; omega) ((heap_alloc_old w4 _ (by have := HS6.out; omega)).trans HH5.out)
       have t6 : w5.heap[w.heap.size + 1]? = some (.cells #[.int .i64 0, .int .u64 0, .string ⟨#[]⟩, .slice none 0 0, .slice none 0 0] 28 (0, 0)) := hran.keep (by have := HS6.out; simp; omega) (fun e => by have := (HM6.out.lt _ e.symm).1; omega) ((heap_alloc_old w4 _ (by have := HS6.out; omega)).trans HR5.out)
       have hm7 : Mid w5 (w.heap.size + 2) 5 1 (.slice A3 (n + 1) c3) (n + 1) ((xs.take i ++ b :: xs.drop i).map (Value.int .u8)) := HM5.out.same fun g hg => hran.keep (by have := (HM5.out.lt g hg).2; simp; omega) (fun e => Mid.apart HM5.out HM6.out hg e.symm rfl) (heap_alloc_old w4 _ (HM5.out.lt g hg).2)
       have hm8 : Mid w5 (w.heap.size + 2) 3 1 (.slice A4 (n + 1) c4) (n + 1) ((ys.take i ++ kid :: ys.drop i).map (Value.int .i64)) := by rw [← map_ins]; exact hmn
       have HM7 := Lib.hid hm7
       have HM8 := Lib.hid hm8
       have HB6 := Lib.hid hb5
       have HH7 := Lib.hid t5
       have HR7 := Lib.hid t6
       have o0 := cell_of t5 0
       have o1 := cell_of t5 1
       have o2 := cell_of t5 2
       have o3 := cell_of t5 3
       have o4 := cell_of t5 4
       have x4 := frozen_of t5 4
       have u0 := cell_of t6 0
       have v0 := frozen_of t6 0
       have u1 := cell_of t6 1
       have v1 := frozen_of t6 1
       have u2 := cell_of t6 2
       have v2 := frozen_of t6 2
       have u3 := cell_of t6 3
       have v3 := frozen_of t6 3
       have u4 := cell_of t6 4
       have v4 := frozen_of t6 4
       clear t5 t6 hm7 hm8 hb5 hran hmn)
    | fail)
  have hr : (w5.setCell ⟨w.heap.size, 4, none⟩ (.slice A4 (n + 1) c4)).heap[w.heap.size + 1]? = some (.cells #[.int .i64 0, .int .u64 0, .string ⟨#[]⟩, .slice none 0 0, .slice none 0 0] 28 (0, 0)) := heap_far (by show w.heap.size + 1 ≠ w.heap.size; omega) HR7.out
  have far : ∀ g, w.heap.size + 2 ≤ g → ((((((w5.setCell ⟨w.heap.size, 4, none⟩ (.slice A4 (n + 1) c4)).setCell ⟨w.heap.size + 1, 0, none⟩ (.int .i64 kd)).setCell ⟨w.heap.size + 1, 1, none⟩ (.int .u64 wd)).setCell ⟨w.heap.size + 1, 2, none⟩ (.string pf)).setCell ⟨w.heap.size + 1, 3, none⟩ (.slice A3 (n + 1) c3)).setCell ⟨w.heap.size + 1, 4, none⟩ (.slice A4 (n + 1) c4)).heap[g]? = w5.heap[g]? := fun g hg => by
    refine heap_far ?_ (heap_far ?_ (heap_far ?_ (heap_far ?_ (heap_far ?_ (heap_far ?_ rfl))))) <;> first | (show g ≠ w.heap.size; omega) | (show g ≠ w.heap.size + 1; omega)
  clear o0 o1 o2 o3 o4 x4 u0 v0 u1 v1 u2 v2 u3 v3 u4 v4
  have h12 := (heap_setCell_same _ _ 4 _ _ (.slice A4 (n + 1) c4) (heap_setCell_same _ _ 3 _ _ (.slice A3 (n + 1) c3) (heap_setCell_same _ _ 2 _ _ (.string pf) (heap_setCell_same _ _ 1 _ _ (.int .u64 wd) (heap_setCell_same _ _ 0 _ _ (.int .i64 kd) hr)))))
  have bel : Below w.heap.size w ((((((w5.setCell ⟨w.heap.size, 4, none⟩ (.slice A4 (n + 1) c4)).setCell ⟨w.heap.size + 1, 0, none⟩ (.int .i64 kd)).setCell ⟨w.heap.size + 1, 1, none⟩ (.int .u64 wd)).setCell ⟨w.heap.size + 1, 2, none⟩ (.string pf)).setCell ⟨w.heap.size + 1, 3, none⟩ (.slice A3 (n + 1) c3)).setCell ⟨w.heap.size + 1, 4, none⟩ (.slice A4 (n + 1) c4)) := ((((((HB6.out.setCell (p := ⟨w.heap.size, 4, none⟩) (Nat.le_refl _) _).setCell (p := ⟨w.heap.size + 1, 0, none⟩) (Nat.le_succ _) _).setCell (p := ⟨w.heap.size + 1, 1, none⟩) (Nat.le_succ _) _).setCell (p := ⟨w.heap.size + 1, 2, none⟩) (Nat.le_succ _) _).setCell (p := ⟨w.heap.size + 1, 3, none⟩) (Nat.le_succ _) _).setCell (p := ⟨w.heap.size + 1, 4, none⟩) (Nat.le_succ _) _)
  generalize ((((((w5.setCell ⟨w.heap.size, 4, none⟩ (.slice A4 (n + 1) c4)).setCell ⟨w.heap.size + 1, 0, none⟩ (.int .i64 kd)).setCell ⟨w.heap.size + 1, 1, none⟩ (.int .u64 wd)).setCell ⟨w.heap.size + 1, 2, none⟩ (.string pf)).setCell ⟨w.heap.size + 1, 3, none⟩ (.slice A3 (n + 1) c3)).setCell ⟨w.heap.size + 1, 4, none⟩ (.slice A4 (n + 1) c4)) = w6 at *
  have e0 : w6.cell? ⟨w.heap.size + 1, 0, none⟩ = some (.int .i64 kd) := cell_of h12 0
  have e1 : w6.cell? ⟨w.heap.size + 1, 1, none⟩ = some (.int .u64 wd) := cell_of h12 1
  have e2 : w6.cell? ⟨w.heap.size + 1, 2, none⟩ = some (.string pf) := cell_of h12 2
  have e3 : w6.cell? ⟨w.heap.size + 1, 3, none⟩ = some (.slice A3 (n + 1) c3) := cell_of h12 3
  have e4 : w6.cell? ⟨w.heap.size + 1, 4, none⟩ = some (.slice A4 (n + 1) c4) := cell_of h12 4
  exact bodyPost_ret (v := .tuple #[nodeV kd wd pf A3 c3 A4 c4 (n + 1), .bool true]) (by simp [results, Try.results19, go_sem, e0, e1, e2, e3, e4, nodeV]) rfl
    ⟨_, rfl, A3, c3, A4, c4, rfl, (HM7.out.same fun g hg => far g (HM7.out.lt g hg).1).lower (by omega), (HM8.out.same fun g hg => far g (HM8.out.lt g hg).1).lower (by omega), bel⟩
end Go.Proofs.Ytononinmjijhoaa
