/-
  node.Without at a right node: the child is taken out, or there is none; slices.Delete of one out of a row of the call's own; conditions: lengths.
-/
import Derived.Test.YtononinmjijhoaaNdb
import Derived.Deep.Cut
namespace Go.Proofs.Ytononinmjijhoaa
open Go.RowKit Go.WideShapes Go.ChangeShapes
set_option linter.all false
theorem two_dels {w : World} {g off n i : Nat} {t : TypeId} {xs : List Value} {z : Value} {cur : Array Value} (hg : w.heap[g]? = some (.cells cur t (0, 0))) (hl : xs.length = n) (hi : i < n) (hs : off + n ≤ cur.size) (h : ∀ k, k < n → cur[off + k]? = xs[k]?) :
    ∃ c', ((w.setCells g (off + i) (xs.drop (i + 1))).setCells g (off + (n - 1)) [z]).heap[g]? = some (.cells c' t (0, 0)) ∧ c'.size = cur.size ∧ ∀ k, k < n - 1 → c'[off + k]? = (xs.take i ++ xs.drop (i + 1))[k]? := by
  have hdl : (xs.drop (i + 1)).length = n - (i + 1) := by rw [List.length_drop, hl]
  obtain ⟨c1, a1, a2, a3, a4⟩ := heap_setCells_same (xs.drop (i + 1)) (off + i) w cur t hg (by omega)
  refine ⟨c1.setIfInBounds (off + (n - 1)) z, ?_, by simp [a2], fun k hk => ?_⟩
  · show ((w.setCells g (off + i) (xs.drop (i + 1))).setCell ⟨g, off + (n - 1), none⟩ z).heap[g]? = _
    exact heap_setCell_same _ _ _ _ _ _ a1
  · rw [Array.getElem?_setIfInBounds, if_neg (by omega)]
    have hti : (xs.take i).length = i := by rw [List.length_take]; omega
    by_cases h1 : k < i
    · rw [List.getElem?_append_left (by omega), List.getElem?_take, if_pos h1, ← h k (by omega)]
      have := congrArg (fun l => l[off + k]?) a3
      simp only [List.getElem?_take] at this
      rw [if_pos (by omega), if_pos (by omega)] at this
      simpa using this
    · rw [List.getElem?_append_right (by omega), hti]
      have := congrArg (fun l => l[k - i]?) a4
      simp only [List.getElem?_take, List.getElem?_drop] at this
      rw [if_pos (by omega)] at this
      have e1 : off + i + (k - i) = off + k := by omega
      rw [e1] at this
      rw [List.getElem?_drop]
      simpa using this
theorem map_del (f : Int → Value) (xs : List Int) (i : Nat) : (xs.map f).take i ++ (xs.map f).drop (i + 1) = (xs.take i ++ xs.drop (i + 1)).map f := by simp
set_option maxRecDepth 100000 in
set_option maxHeartbeats 3200000 in
theorem del_mid_byte (base g off n c i : Nat) (xs : List Value) (w : World) (hm : Mid w base 5 1 (.slice (some ⟨g, off, none⟩) n c) n xs) (hi : i < n) (hn : n ≤ 100000) (h1 : ∀ u ∈ xs, u.oneCell' = true) :
    Calls Try.prog 33 #[.slice (some ⟨g, off, none⟩) n c, .int .i64 i, .int .i64 ((i : Int) + 1)] w fun e w' => e = .returned (.slice (some ⟨g, off, none⟩) (n - 1) c) ∧ Mid w' base 5 1 (.slice (some ⟨g, off, none⟩) (n - 1) c) (n - 1) (xs.take i ++ xs.drop (i + 1)) ∧ Ran (.slice (some ⟨g, off, none⟩) n c) (.slice (some ⟨g, off, none⟩) (n - 1) c) w w' := by
  have hl : xs.length = n := by have := hm.1; omega
  rcases hm.2 with ⟨h', h0⟩ | ⟨g', off', cap, cur, h', hb, hh, hnc, hcm, hs, hx⟩
  · cases h'
  · simp only [Value.slice.injEq, Option.some.injEq, Addr.mk.injEq, and_true, true_and] at h'
    obtain ⟨⟨rfl, rfl⟩, rfl⟩ := h'
    refine (del_byte g off n c i xs w hi hnc (by omega) hl hm.cells (fun j hj => ?_) (fun j hj => frozen_of hh _) h1).mono ?_
    · rw [cell_of hh, Array.getElem?_eq_getElem (show off + j < cur.size by omega)]; rfl
    · rintro e w' ⟨rfl, rfl⟩
      obtain ⟨c', a1, a2, a3⟩ := two_dels (w := w.drew) (z := (.int .u8 0)) (i := i) (xs := xs) (n := n) (off := off) hh hl hi (by omega) (fun k hk => by rw [← hx, List.getElem?_take, if_pos (by omega), List.getElem?_drop]; simp)
      refine ⟨rfl, Mid.of_get (by simp; omega) hb a1 (by omega) hcm (by omega) a3, ⟨?_, .inl rfl⟩⟩
      have t1 := tape_sc g [(.int .u8 0)] (off + (n - 1)) (w.drew.setCells g (off + i) (xs.drop (i + 1)))
      have t2 := tape_sc g (xs.drop (i + 1)) (off + i) w.drew
      exact ⟨t1.2.1.trans t2.2.1, t1.1.trans t2.1, t1.2.2.trans t2.2.2, by rw [size_setCells_, size_setCells_]; exact Nat.le_refl _, fun k hk hr => by
        have hkg : k ≠ g := fun e => hr (by rw [e]; rfl)
        rw [heap_setCells_out hkg, heap_setCells_out hkg]; rfl⟩
set_option maxRecDepth 100000 in
set_option maxHeartbeats 3200000 in
theorem del_mid_int (base g off n c i : Nat) (xs : List Value) (w : World) (hm : Mid w base 3 1 (.slice (some ⟨g, off, none⟩) n c) n xs) (hi : i < n) (hn : n ≤ 100000) (h1 : ∀ u ∈ xs, u.oneCell' = true) :
    Calls Try.prog 34 #[.slice (some ⟨g, off, none⟩) n c, .int .i64 i, .int .i64 ((i : Int) + 1)] w fun e w' => e = .returned (.slice (some ⟨g, off, none⟩) (n - 1) c) ∧ Mid w' base 3 1 (.slice (some ⟨g, off, none⟩) (n - 1) c) (n - 1) (xs.take i ++ xs.drop (i + 1)) ∧ Ran (.slice (some ⟨g, off, none⟩) n c) (.slice (some ⟨g, off, none⟩) (n - 1) c) w w' := by
  have hl : xs.length = n := by have := hm.1; omega
  rcases hm.2 with ⟨h', h0⟩ | ⟨g', off', cap, cur, h', hb, hh, hnc, hcm, hs, hx⟩
  · cases h'
  · simp only [Value.slice.injEq, Option.some.injEq, Addr.mk.injEq, and_true, true_and] at h'
    obtain ⟨⟨rfl, rfl⟩, rfl⟩ := h'
    refine (del_int g off n c i xs w hi hnc (by omega) hl hm.cells (fun j hj => ?_) (fun j hj => frozen_of hh _) h1).mono ?_
    · rw [cell_of hh, Array.getElem?_eq_getElem (show off + j < cur.size by omega)]; rfl
    · rintro e w' ⟨rfl, rfl⟩
      obtain ⟨c', a1, a2, a3⟩ := two_dels (w := w.drew) (z := (.int .i64 0)) (i := i) (xs := xs) (n := n) (off := off) hh hl hi (by omega) (fun k hk => by rw [← hx, List.getElem?_take, if_pos (by omega), List.getElem?_drop]; simp)
      refine ⟨rfl, Mid.of_get (by simp; omega) hb a1 (by omega) hcm (by omega) a3, ⟨?_, .inl rfl⟩⟩
      have t1 := tape_sc g [(.int .i64 0)] (off + (n - 1)) (w.drew.setCells g (off + i) (xs.drop (i + 1)))
      have t2 := tape_sc g (xs.drop (i + 1)) (off + i) w.drew
      exact ⟨t1.2.1.trans t2.2.1, t1.1.trans t2.1, t1.2.2.trans t2.2.2, by rw [size_setCells_, size_setCells_]; exact Nat.le_refl _, fun k hk hr => by
        have hkg : k ≠ g := fun e => hr (by rw [e]; rfl)
        rw [heap_setCells_out hkg, heap_setCells_out hkg]; rfl⟩
set_option maxRecDepth 100000 in
set_option maxHeartbeats 3200000 in
theorem without_no (kd wd : Int) (pf : ByteArray) (A : Option Addr) (c : Nat) (A' : Option Addr) (c' n : Nat) (xs ys : List Int) (b : Int) (w : World) (h : NodeL kd wd pf xs ys n) (hn : n ≤ 256) (hthere : isN b xs = false)
    (hx : Reads w w.heap.size 1 A n (xs.map (Value.int .u8))) (hy : Reads w w.heap.size 1 A' n (ys.map (Value.int .i64))) :
    Calls Try.prog 20 #[nodeV kd wd pf A c A' c' n, .int .u8 b] w fun e w' => e = .returned (.tuple #[nodeV 0 0 ⟨#[]⟩ none 0 none 0 0, .bool false]) ∧ Below w.heap.size w w' := by
  obtain ⟨wb, hwb⟩ : ∃ wb, (w.alloc (.cells #[.int .i64 kd, .int .u64 wd, .string pf, .slice A n c, .slice A' n c'] 28)).alloc (.cells #[.int .i64 0, .int .u64 0, .string ⟨#[]⟩, .slice none 0 0, .slice none 0 0] 28) = wb := ⟨_, rfl⟩
  have HSZ : Hid (wb.heap.size = w.heap.size + 2) := Lib.hid (by rw [← hwb]; simp)
  have HBW : Hid (Below w.heap.size w wb) := Lib.hid (by rw [← hwb]; exact ((Below.refl _ _).alloc (Nat.le_refl _) _).alloc (by simp) _)
  have HBOX : Hid (Bx w.heap.size #[.int .i64 kd, .int .u64 wd, .string pf, .slice A n c, .slice A' n c'] #[.int .i64 0, .int .u64 0, .string ⟨#[]⟩, .slice none 0 0, .slice none 0 0] wb) := Lib.hid (by
    rw [← hwb]
    refine ⟨?_, ?_⟩
    · rw [heap_alloc_old _ _ (by simp)]; exact heap_alloc_new _ _
    · have := heap_alloc_new (w.alloc (.cells #[.int .i64 kd, .int .u64 wd, .string pf, .slice A n c, .slice A' n c'] 28)) (.cells #[.int .i64 0, .int .u64 0, .string ⟨#[]⟩, .slice none 0 0, .slice none 0 0] 28)
      simpa using this)
  have HX : Hid (Reads wb wb.heap.size 1 A n (xs.map (Value.int .u8))) := Lib.hid ((hx.below HBW.out).more HBW.out.size)
  have HY : Hid (Reads wb wb.heap.size 1 A' n (ys.map (Value.int .i64))) := Lib.hid ((hy.below HBW.out).more HBW.out.size)
  have LX : Hid (xs.length = n) := Lib.hid (klen hx)
  have LY : Hid (ys.length = n) := Lib.hid (klen hy)
  have HW := Lib.hid hwb
  have HL := Lib.hid h
  have HT := Lib.hid hthere
  obtain ⟨i, hii⟩ : ∃ i, i = lowN b xs := ⟨_, rfl⟩
  have HI := Lib.hid hii
  clear hii
  have F1 : Hid True := trivial
  clear hx hy h hwb hthere
  unfold nodeV
  go_enter Try.func20, Try.ntmps20
  go_upto_region 5 with (first
    | (go_at_call 21; clear F1; rw [HW.out]; refine (right_any kd wd pf A c A' c' n xs ys wb HL.out hn HX.out HY.out).mono ?_
       rintro e w1 ⟨rfl, hb1⟩
       have HB1 := Lib.hid hb1
       have HX1 : Hid (Reads w1 w1.heap.size 1 A n (xs.map (Value.int .u8))) := Lib.hid ((HX.out.below HB1.out).more HB1.out.size)
       have HY1 : Hid (Reads w1 w1.heap.size 1 A' n (ys.map (Value.int .i64))) := Lib.hid ((HY.out.below HB1.out).more HB1.out.size)
       have HH1 : Hid (w1.heap[w.heap.size]? = some (.cells #[.int .i64 kd, .int .u64 wd, .string pf, .slice A n c, .slice A' n c'] 28 (0, 0))) := Lib.hid ((heap_below HB1.out (by rw [HSZ.out]; omega)).trans HBOX.out.1)
       have HR1 : Hid (w1.heap[w.heap.size + 1]? = some (.cells #[.int .i64 0, .int .u64 0, .string ⟨#[]⟩, .slice none 0 0, .slice none 0 0] 28 (0, 0))) := Lib.hid ((heap_below HB1.out (by rw [HSZ.out]; omega)).trans HBOX.out.2)
       have HS1 : Hid (w.heap.size + 2 ≤ w1.heap.size) := Lib.hid (by have := HB1.out.size; rw [HSZ.out] at this; exact this)
       have k0 := cell_of HH1.out 0
       have k1 := cell_of HH1.out 1
       have k2 := cell_of HH1.out 2
       have k3 := cell_of HH1.out 3
       have k4 := cell_of HH1.out 4
       have F2 : Hid True := trivial
       clear hb1)
    | (go_at_call 30; clear F2; refine (bs_any A n c xs b _ HX1.out (by omega) HL.out.asc).mono ?_
       rintro e w3 ⟨rfl, hw3⟩
       replace hw3 := hw3.symm
       subst hw3
       rw [HT.out, ← HI.out]
       have F3 : Hid True := trivial)
    | fail)
  have u0 := cell_of HR1.out 0
  have y0 := frozen_of HR1.out 0
  have u1 := cell_of HR1.out 1
  have y1 := frozen_of HR1.out 1
  have u2 := cell_of HR1.out 2
  have y2 := frozen_of HR1.out 2
  have u3 := cell_of HR1.out 3
  have y3 := frozen_of HR1.out 3
  have u4 := cell_of HR1.out 4
  have y4 := frozen_of HR1.out 4
  go_wp2
  have bb0 : Below w.heap.size w w1 := HBW.out.trans (HB1.out.mono (by rw [HSZ.out]; omega))
  clear k0 k1 k2 k3 k4 u0 y0 u1 y1 u2 y2 u3 y3 u4 y4
  have h12 := (heap_setCell_same _ _ 4 _ _ (.slice none 0 0) (heap_setCell_same _ _ 3 _ _ (.slice none 0 0) (heap_setCell_same _ _ 2 _ _ (.string ⟨#[]⟩) (heap_setCell_same _ _ 1 _ _ (.int .u64 0) (heap_setCell_same _ _ 0 _ _ (.int .i64 0) HR1.out)))))
  have bel : Below w.heap.size w (((((w1.setCell ⟨w.heap.size + 1, 0, none⟩ (.int .i64 0)).setCell ⟨w.heap.size + 1, 1, none⟩ (.int .u64 0)).setCell ⟨w.heap.size + 1, 2, none⟩ (.string ⟨#[]⟩)).setCell ⟨w.heap.size + 1, 3, none⟩ (.slice none 0 0)).setCell ⟨w.heap.size + 1, 4, none⟩ (.slice none 0 0)) := (((((bb0.setCell (p := ⟨w.heap.size + 1, 0, none⟩) (Nat.le_succ _) _).setCell (p := ⟨w.heap.size + 1, 1, none⟩) (Nat.le_succ _) _).setCell (p := ⟨w.heap.size + 1, 2, none⟩) (Nat.le_succ _) _).setCell (p := ⟨w.heap.size + 1, 3, none⟩) (Nat.le_succ _) _).setCell (p := ⟨w.heap.size + 1, 4, none⟩) (Nat.le_succ _) _)
  generalize (((((w1.setCell ⟨w.heap.size + 1, 0, none⟩ (.int .i64 0)).setCell ⟨w.heap.size + 1, 1, none⟩ (.int .u64 0)).setCell ⟨w.heap.size + 1, 2, none⟩ (.string ⟨#[]⟩)).setCell ⟨w.heap.size + 1, 3, none⟩ (.slice none 0 0)).setCell ⟨w.heap.size + 1, 4, none⟩ (.slice none 0 0)) = w5 at *
  have e0 : w5.cell? ⟨w.heap.size + 1, 0, none⟩ = some (.int .i64 0) := cell_of h12 0
  have e1 : w5.cell? ⟨w.heap.size + 1, 1, none⟩ = some (.int .u64 0) := cell_of h12 1
  have e2 : w5.cell? ⟨w.heap.size + 1, 2, none⟩ = some (.string ⟨#[]⟩) := cell_of h12 2
  have e3 : w5.cell? ⟨w.heap.size + 1, 3, none⟩ = some (.slice none 0 0) := cell_of h12 3
  have e4 : w5.cell? ⟨w.heap.size + 1, 4, none⟩ = some (.slice none 0 0) := cell_of h12 4
  exact bodyPost_ret (v := .tuple #[nodeV 0 0 ⟨#[]⟩ none 0 none 0 0, .bool false]) (by simp [results, Try.results20, go_sem, e0, e1, e2, e3, e4, nodeV]) rfl ⟨rfl, bel⟩
set_option maxRecDepth 100000 in
set_option maxHeartbeats 3200000 in
theorem without_yes (kd wd : Int) (pf : ByteArray) (A : Option Addr) (c : Nat) (A' : Option Addr) (c' n : Nat) (xs ys : List Int) (b : Int) (w : World) (h : NodeL kd wd pf xs ys n) (hn : n ≤ 256) (hthere : isN b xs = true)
    (hx : Reads w w.heap.size 1 A n (xs.map (Value.int .u8))) (hy : Reads w w.heap.size 1 A' n (ys.map (Value.int .i64))) :
    Calls Try.prog 20 #[nodeV kd wd pf A c A' c' n, .int .u8 b] w fun e w' => ∃ v, e = .returned (.tuple #[v, .bool true]) ∧ NV w.heap.size kd wd pf (xs.take (lowN b xs) ++ xs.drop (lowN b xs + 1)) (ys.take (lowN b xs) ++ ys.drop (lowN b xs + 1)) (n - 1) w v w' := by
  obtain ⟨wb, hwb⟩ : ∃ wb, (w.alloc (.cells #[.int .i64 kd, .int .u64 wd, .string pf, .slice A n c, .slice A' n c'] 28)).alloc (.cells #[.int .i64 0, .int .u64 0, .string ⟨#[]⟩, .slice none 0 0, .slice none 0 0] 28) = wb := ⟨_, rfl⟩
  have HSZ : Hid (wb.heap.size = w.heap.size + 2) := Lib.hid (by rw [← hwb]; simp)
  have HBW : Hid (Below w.heap.size w wb) := Lib.hid (by rw [← hwb]; exact ((Below.refl _ _).alloc (Nat.le_refl _) _).alloc (by simp) _)
  have HBOX : Hid (Bx w.heap.size #[.int .i64 kd, .int .u64 wd, .string pf, .slice A n c, .slice A' n c'] #[.int .i64 0, .int .u64 0, .string ⟨#[]⟩, .slice none 0 0, .slice none 0 0] wb) := Lib.hid (by
    rw [← hwb]
    refine ⟨?_, ?_⟩
    · rw [heap_alloc_old _ _ (by simp)]; exact heap_alloc_new _ _
    · have := heap_alloc_new (w.alloc (.cells #[.int .i64 kd, .int .u64 wd, .string pf, .slice A n c, .slice A' n c'] 28)) (.cells #[.int .i64 0, .int .u64 0, .string ⟨#[]⟩, .slice none 0 0, .slice none 0 0] 28)
      simpa using this)
  have HX : Hid (Reads wb wb.heap.size 1 A n (xs.map (Value.int .u8))) := Lib.hid ((hx.below HBW.out).more HBW.out.size)
  have HY : Hid (Reads wb wb.heap.size 1 A' n (ys.map (Value.int .i64))) := Lib.hid ((hy.below HBW.out).more HBW.out.size)
  have LX : Hid (xs.length = n) := Lib.hid (klen hx)
  have LY : Hid (ys.length = n) := Lib.hid (klen hy)
  have HW := Lib.hid hwb
  have HL := Lib.hid h
  have HT := Lib.hid hthere
  obtain ⟨i, hii⟩ : ∃ i, i = lowN b xs := ⟨_, rfl⟩
  have HI := Lib.hid hii
  have hi : i < n := by
    have hd := HT.out
    unfold isN at hd
    simp only [decide_eq_true_eq] at hd
    rw [hii, ← LX.out]; exact hd.1
  rw [← hii]
  have hiI : (i : Int) < (n : Int) := by omega
  have hi2 : (i : Int) ≤ 256 := by omega
  clear hii
  have F1 : Hid True := trivial
  clear hx hy h hwb hthere
  unfold nodeV
  go_enter Try.func20, Try.ntmps20
  go_wp2_with (first
    | (go_at_call 21; clear F1; rw [HW.out]; refine (right_any kd wd pf A c A' c' n xs ys wb HL.out hn HX.out HY.out).mono ?_
       rintro e w1 ⟨rfl, hb1⟩
       have HB1 := Lib.hid hb1
       have HX1 : Hid (Reads w1 w1.heap.size 1 A n (xs.map (Value.int .u8))) := Lib.hid ((HX.out.below HB1.out).more HB1.out.size)
       have HY1 : Hid (Reads w1 w1.heap.size 1 A' n (ys.map (Value.int .i64))) := Lib.hid ((HY.out.below HB1.out).more HB1.out.size)
       have HH1 : Hid (w1.heap[w.heap.size]? = some (.cells #[.int .i64 kd, .int .u64 wd, .string pf, .slice A n c, .slice A' n c'] 28 (0, 0))) := Lib.hid ((heap_below HB1.out (by rw [HSZ.out]; omega)).trans HBOX.out.1)
       have HR1 : Hid (w1.heap[w.heap.size + 1]? = some (.cells #[.int .i64 0, .int .u64 0, .string ⟨#[]⟩, .slice none 0 0, .slice none 0 0] 28 (0, 0))) := Lib.hid ((heap_below HB1.out (by rw [HSZ.out]; omega)).trans HBOX.out.2)
       have HS1 : Hid (w.heap.size + 2 ≤ w1.heap.size) := Lib.hid (by have := HB1.out.size; rw [HSZ.out] at this; exact this)
       have k0 := cell_of HH1.out 0
       have k1 := cell_of HH1.out 1
       have k2 := cell_of HH1.out 2
       have k3 := cell_of HH1.out 3
       have k4 := cell_of HH1.out 4
       have F2 : Hid True := trivial
       clear hb1)
    | (go_at_call 30; clear F2; refine (bs_any A n c xs b _ HX1.out (by omega) HL.out.asc).mono ?_
       rintro e w3 ⟨rfl, hw3⟩
       replace hw3 := hw3.symm
       subst hw3
       rw [HT.out, ← HI.out]
       have F3 : Hid True := trivial)
    | (go_at_call 27; clear F3; refine (sep_any kd wd pf A c A' c' n xs ys w1 hn HX1.out HY1.out).mono ?_
       rintro e w2 ⟨vv, rfl, A1, c1, A2, c2, rfl, hm1, hm2, hb2⟩
       unfold nodeV
       have HB2 := Lib.hid hb2
       have g0 : w2.heap[w.heap.size]? = some (.cells #[.int .i64 kd, .int .u64 wd, .string pf, .slice A n c, .slice A' n c'] 28 (0, 0)) := (heap_below hb2 (by have := HS1.out; omega)).trans HH1.out
       have g1 : w2.heap[w.heap.size + 1]? = some (.cells #[.int .i64 0, .int .u64 0, .string ⟨#[]⟩, .slice none 0 0, .slice none 0 0] 28 (0, 0)) := (heap_below hb2 (by have := HS1.out; omega)).trans HR1.out
       have j0 := cell_of g0 0
       have q0 := frozen_of g0 0
       have j1 := cell_of g0 1
       have q1 := frozen_of g0 1
       have j2 := cell_of g0 2
       have q2 := frozen_of g0 2
       have j3 := cell_of g0 3
       have q3 := frozen_of g0 3
       have j4 := cell_of g0 4
       have q4 := frozen_of g0 4
       have g5 : (((((w2.setCell ⟨w.heap.size, 0, none⟩ (.int .i64 kd)).setCell ⟨w.heap.size, 1, none⟩ (.int .u64 wd)).setCell ⟨w.heap.size, 2, none⟩ (.string pf)).setCell ⟨w.heap.size, 3, none⟩ (.slice A1 n c1)).setCell ⟨w.heap.size, 4, none⟩ (.slice A2 n c2)).heap[w.heap.size]? = some (.cells #[.int .i64 kd, .int .u64 wd, .string pf, .slice A1 n c1, .slice A2 n c2] 28 (0, 0)) := (heap_setCell_same _ _ 4 _ _ (.slice A2 n c2) (heap_setCell_same _ _ 3 _ _ (.slice A1 n c1) (heap_setCell_same _ _ 2 _ _ (.string pf) (heap_setCell_same _ _ 1 _ _ (.int .u64 wd) (heap_setCell_same _ _ 0 _ _ (.int .i64 kd) g0)))))
       have g6 : (((((w2.setCell ⟨w.heap.size, 0, none⟩ (.int .i64 kd)).setCell ⟨w.heap.size, 1, none⟩ (.int .u64 wd)).setCell ⟨w.heap.size, 2, none⟩ (.string pf)).setCell ⟨w.heap.size, 3, none⟩ (.slice A1 n c1)).setCell ⟨w.heap.size, 4, none⟩ (.slice A2 n c2)).heap[w.heap.size + 1]? = some (.cells #[.int .i64 0, .int .u64 0, .string ⟨#[]⟩, .slice none 0 0, .slice none 0 0] 28 (0, 0)) := by
         refine heap_far ?_ (heap_far ?_ (heap_far ?_ (heap_far ?_ (heap_far ?_ g1)))) <;> (show w.heap.size + 1 ≠ w.heap.size; omega)
       have far : ∀ g, w.heap.size + 2 ≤ g → (((((w2.setCell ⟨w.heap.size, 0, none⟩ (.int .i64 kd)).setCell ⟨w.heap.size, 1, none⟩ (.int .u64 wd)).setCell ⟨w.heap.size, 2, none⟩ (.string pf)).setCell ⟨w.heap.size, 3, none⟩ (.slice A1 n c1)).setCell ⟨w.heap.size, 4, none⟩ (.slice A2 n c2)).heap[g]? = w2.heap[g]? := fun g hg => by
         refine heap_far ?_ (heap_far ?_ (heap_far ?_ (heap_far ?_ (heap_far ?_ rfl)))) <;> (show g ≠ w.heap.size; omega)
       have HB3 : Hid (Below w.heap.size w (((((w2.setCell ⟨w.heap.size, 0, none⟩ (.int .i64 kd)).setCell ⟨w.heap.size, 1, none⟩ (.int .u64 wd)).setCell ⟨w.heap.size, 2, none⟩ (.string pf)).setCell ⟨w.heap.size, 3, none⟩ (.slice A1 n c1)).setCell ⟨w.heap.size, 4, none⟩ (.slice A2 n c2))) := Lib.hid ((((((((HBW.out.trans (HB1.out.mono (by rw [HSZ.out]; omega)))).trans (HB2.out.mono (by have := HS1.out; omega))).setCell (p := ⟨w.heap.size, 0, none⟩) (Nat.le_refl _) _).setCell (p := ⟨w.heap.size, 1, none⟩) (Nat.le_refl _) _).setCell (p := ⟨w.heap.size, 2, none⟩) (Nat.le_refl _) _).setCell (p := ⟨w.heap.size, 3, none⟩) (Nat.le_refl _) _).setCell (p := ⟨w.heap.size, 4, none⟩) (Nat.le_refl _) _)
       have hm3 : Mid (((((w2.setCell ⟨w.heap.size, 0, none⟩ (.int .i64 kd)).setCell ⟨w.heap.size, 1, none⟩ (.int .u64 wd)).setCell ⟨w.heap.size, 2, none⟩ (.string pf)).setCell ⟨w.heap.size, 3, none⟩ (.slice A1 n c1)).setCell ⟨w.heap.size, 4, none⟩ (.slice A2 n c2)) (w.heap.size + 2) 5 1 (.slice A1 n c1) n (xs.map (Value.int .u8)) := (hm1.same fun g hg => far g (by have := (hm1.lt g hg).1; have := HS1.out; omega)).lower HS1.out
       have hm4 : Mid (((((w2.setCell ⟨w.heap.size, 0, none⟩ (.int .i64 kd)).setCell ⟨w.heap.size, 1, none⟩ (.int .u64 wd)).setCell ⟨w.heap.size, 2, none⟩ (.string pf)).setCell ⟨w.heap.size, 3, none⟩ (.slice A1 n c1)).setCell ⟨w.heap.size, 4, none⟩ (.slice A2 n c2)) (w.heap.size + 2) 3 1 (.slice A2 n c2) n (ys.map (Value.int .i64)) := (hm2.same fun g hg => far g (by have := (hm2.lt g hg).1; have := HS1.out; omega)).lower HS1.out
       have HM3 := Lib.hid hm3
       have HM4 := Lib.hid hm4
       have HS3 : Hid (w.heap.size + 2 ≤ (((((w2.setCell ⟨w.heap.size, 0, none⟩ (.int .i64 kd)).setCell ⟨w.heap.size, 1, none⟩ (.int .u64 wd)).setCell ⟨w.heap.size, 2, none⟩ (.string pf)).setCell ⟨w.heap.size, 3, none⟩ (.slice A1 n c1)).setCell ⟨w.heap.size, 4, none⟩ (.slice A2 n c2)).heap.size) := Lib.hid (by have h1 := HS1.out; have h2 := hb2.size; simp; omega)
       have HH3 := Lib.hid g5
       have HR3 := Lib.hid g6
       have m3 := cell_of g5 3
       clear hm1 hm2 hm3 hm4 hb2 g0 g1 g5 g6 far k0 k1 k2 k3 k4
       have F4 : Hid True := trivial)
    | (go_at_call 33; clear F4
       generalize (((((w2.setCell ⟨w.heap.size, 0, none⟩ (.int .i64 kd)).setCell ⟨w.heap.size, 1, none⟩ (.int .u64 wd)).setCell ⟨w.heap.size, 2, none⟩ (.string pf)).setCell ⟨w.heap.size, 3, none⟩ (.slice A1 n c1)).setCell ⟨w.heap.size, 4, none⟩ (.slice A2 n c2)) = wq at *
       obtain ⟨gx, ox, rfl⟩ : ∃ gx ox, A1 = some ⟨gx, ox, none⟩ := by
         rcases HM3.out.2 with ⟨_, q⟩ | ⟨gk, ok, _, _, q, _⟩
         · omega
         · injection q with q _ _; exact ⟨gk, ok, q⟩
       obtain ⟨gy, oy, rfl⟩ : ∃ gy oy, A2 = some ⟨gy, oy, none⟩ := by
         rcases HM4.out.2 with ⟨_, q⟩ | ⟨gk, ok, _, _, q, _⟩
         · omega
         · injection q with q _ _; exact ⟨gk, ok, q⟩
       refine (del_mid_byte (w.heap.size + 2) gx ox n c1 i (xs.map (Value.int .u8)) wq HM3.out hi (by omega) (one_ints .u8 xs)).mono ?_
       rintro e w3 ⟨rfl, hmn, hran⟩
       have hb4 : Below w.heap.size w w3 := HB3.out.trans (hran.below (by have := HS3.out; omega) (fun g hg => by have := (HM3.out.lt g hg).1; omega))
       have t5 : w3.heap[w.heap.size]? = some (.cells #[.int .i64 kd, .int .u64 wd, .string pf, .slice (some ⟨gx, ox, none⟩) n c1, .slice (some ⟨gy, oy, none⟩) n c2] 28 (0, 0)) := hran.keep (by have := HS3.out; omega) (fun e => by have := (HM3.out.lt _ e.symm).1; omega) HH3.out
       have t6 : w3.heap[w.heap.size + 1]? = some (.cells #[.int .i64 0, .int .u64 0, .string ⟨#[]⟩, .slice none 0 0, .slice none 0 0] 28 (0, 0)) := hran.keep (by have := HS3.out; omega) (fun e => by have := (HM3.out.lt _ e.symm).1; omega) HR3.out
       have hm6 : Mid w3 (w.heap.size + 2) 3 1 (.slice (some ⟨gy, oy, none⟩) n c2) n (ys.map (Value.int .i64)) := HM4.out.same fun g hg => hran.keep (HM4.out.lt g hg).2 (fun e => Mid.apart HM3.out HM4.out e.symm hg rfl) rfl
       have z3 := cell_of t5 3
       have y3 := frozen_of t5 3
       have z4 := cell_of t5 4
       obtain ⟨w4, hw4⟩ : ∃ w4, w3.setCell ⟨w.heap.size, 3, none⟩ (.slice (some ⟨gx, ox, none⟩) (n - 1) c1) = w4 := ⟨_, rfl⟩
       have HH5 : Hid (w4.heap[w.heap.size]? = some (.cells #[.int .i64 kd, .int .u64 wd, .string pf, .slice (some ⟨gx, ox, none⟩) (n - 1) c1, .slice (some ⟨gy, oy, none⟩) n c2] 28 (0, 0))) := Lib.hid (by rw [← hw4]; exact heap_setCell_same _ _ 3 _ _ (.slice (some ⟨gx, ox, none⟩) (n - 1) c1) t5)
       have HR5 : Hid (w4.heap[w.heap.size + 1]? = some (.cells #[.int .i64 0, .int .u64 0, .string ⟨#[]⟩, .slice none 0 0, .slice none 0 0] 28 (0, 0))) := Lib.hid (by rw [← hw4]; exact heap_far (by show w.heap.size + 1 ≠ w.heap.size; omega) t6)
       have HM5 : Hid (Mid w4 (w.heap.size + 2) 5 1 (.slice (some ⟨gx, ox, none⟩) (n - 1) c1) (n - 1) ((xs.take i ++ xs.drop (i + 1)).map (Value.int .u8))) := Lib.hid (by rw [← hw4, ← map_del]; exact hmn.same fun g hg => heap_far (by have := (hmn.lt g hg).1; show g ≠ w.heap.size; omega) rfl)
       have HM6 : Hid (Mid w4 (w.heap.size + 2) 3 1 (.slice (some ⟨gy, oy, none⟩) n c2) n (ys.map (Value.int .i64))) := Lib.hid (by rw [← hw4]; exact hm6.same fun g hg => heap_far (by have := (hm6.lt g hg).1; show g ≠ w.heap.size; omega) rfl)
       have HB5 : Hid (Below w.heap.size w w4) := Lib.hid (by rw [← hw4]; exact hb4.setCell (p := ⟨w.heap.size, 3, none⟩) (Nat.le_refl _) _)
       have HS6 : Hid (w.heap.size + 2 ≤ w4.heap.size) := Lib.hid (by rw [← hw4]; have := hran.grown.size; have := HS3.out; simp; omega)
       have HW4 := Lib.hid hw4
       clear hw4 t5 t6 hm6 hmn hran hb4
       have F5 : Hid True := trivial)
    | (go_at_call 34; clear F5
       rw [HW4.out]
       refine (del_mid_int (w.heap.size + 2) gy oy n c2 i (ys.map (Value.int .i64)) w4 HM6.out hi (by omega) (one_ints .i64 ys)).mono ?_
       rintro e w5 ⟨rfl, hmn, hran⟩
       have hb5 : Below w.heap.size w w5 := HB5.out.trans (hran.below (by have := HS6.out; omega) (fun g hg => by have := (HM6.out.lt g hg).1; omega))
       have t5 : w5.heap[w.heap.size]? = some (.cells #[.int .i64 kd, .int .u64 wd, .string pf, .slice (some ⟨gx, ox, none⟩) (n - 1) c1, .slice (some ⟨gy, oy, none⟩) n c2] 28 (0, 0)) := hran.keep (by have := HS6.out; omega) (fun e => by have := (HM6.out.lt _ e.symm).1; omega) HH5.out
       have t6 : w5.heap[w.heap.size + 1]? = some (.cells #[.int .i64 0, .int .u64 0, .string ⟨#[]⟩, .slice none 0 0, .slice none 0 0] 28 (0, 0)) := hran.keep (by have := HS6.out; omega) (fun e => by have := (HM6.out.lt _ e.symm).1; omega) HR5.out
       have hm7 : Mid w5 (w.heap.size + 2) 5 1 (.slice (some ⟨gx, ox, none⟩) (n - 1) c1) (n - 1) ((xs.take i ++ xs.drop (i + 1)).map (Value.int .u8)) := HM5.out.same fun g hg => hran.keep (HM5.out.lt g hg).2 (fun e => Mid.apart HM5.out HM6.out hg e.symm rfl) rfl
       have hm8 : Mid w5 (w.heap.size + 2) 3 1 (.slice (some ⟨gy, oy, none⟩) (n - 1) c2) (n - 1) ((ys.take i ++ ys.drop (i + 1)).map (Value.int .i64)) := by rw [← map_del]; exact hmn
       have HM7 := Lib.hid hm7
       have HM8 := Lib.hid hm8
       have HB6 := Lib.hid hb5
       have HH7 := Lib.hid t5
       have HR7 := Lib.hid t6
       have o0 := cell_of t5 0
       have o1 := cell_of t5 1
       have o2 := cell_of t5 2
       have o3 := cell_of t5 3
       have o4 := cell_of t5 4
       have x4 := frozen_of t5 4
       have u0 := cell_of t6 0
       have v0 := frozen_of t6 0
       have u1 := cell_of t6 1
       have v1 := frozen_of t6 1
       have u2 := cell_of t6 2
       have v2 := frozen_of t6 2
       have u3 := cell_of t6 3
       have v3 := frozen_of t6 3
       have u4 := cell_of t6 4
       have v4 := frozen_of t6 4
       clear t5 t6 hm7 hm8 hb5 hran hmn)
    | fail)
  have hr : (w5.setCell ⟨w.heap.size, 4, none⟩ (.slice (some ⟨gy, oy, none⟩) (n - 1) c2)).heap[w.heap.size + 1]? = some (.cells #[.int .i64 0, .int .u64 0, .string ⟨#[]⟩, .slice none 0 0, .slice none 0 0] 28 (0, 0)) := heap_far (by show w.heap.size + 1 ≠ w.heap.size; omega) HR7.out
  have far : ∀ g, w.heap.size + 2 ≤ g → ((((((w5.setCell ⟨w.heap.size, 4, none⟩ (.slice (some ⟨gy, oy, none⟩) (n - 1) c2)).setCell ⟨w.heap.size + 1, 0, none⟩ (.int .i64 kd)).setCell ⟨w.heap.size + 1, 1, none⟩ (.int .u64 wd)).setCell ⟨w.heap.size + 1, 2, none⟩ (.string pf)).setCell ⟨w.heap.size + 1, 3, none⟩ (.slice (some ⟨gx, ox, none⟩) (n - 1) c1)).setCell ⟨w.heap.size + 1, 4, none⟩ (.slice (some ⟨gy, oy, none⟩) (n - 1) c2)).heap[g]? = w5.heap[g]? := fun g hg => by
    refine heap_far ?_ (heap_far ?_ (heap_far ?_ (heap_far ?_ (heap_far ?_ (heap_far ?_ rfl))))) <;> first | (show g ≠ w.heap.size; omega) | (show g ≠ w.heap.size + 1; omega)
  clear o0 o1 o2 o3 o4 x4 u0 v0 u1 v1 u2 v2 u3 v3 u4 v4
  have h12 := (heap_setCell_same _ _ 4 _ _ (.slice (some ⟨gy, oy, none⟩) (n - 1) c2) (heap_setCell_same _ _ 3 _ _ (.slice (some ⟨gx, ox, none⟩) (n - 1) c1) (heap_setCell_same _ _ 2 _ _ (.string pf) (heap_setCell_same _ _ 1 _ _ (.int .u64 wd) (heap_setCell_same _ _ 0 _ _ (.int .i64 kd) hr)))))
  have bel : Below w.heap.size w ((((((w5.setCell ⟨w.heap.size, 4, none⟩ (.slice (some ⟨gy, oy, none⟩) (n - 1) c2)).setCell ⟨w.heap.size + 1, 0, none⟩ (.int .i64 kd)).setCell ⟨w.heap.size + 1, 1, none⟩ (.int .u64 wd)).setCell ⟨w.heap.size + 1, 2, none⟩ (.string pf)).setCell ⟨w.heap.size + 1, 3, none⟩ (.slice (some ⟨gx, ox, none⟩) (n - 1) c1)).setCell ⟨w.heap.size + 1, 4, none⟩ (.slice (some ⟨gy, oy, none⟩) (n - 1) c2)) := ((((((HB6.out.setCell (p := ⟨w.heap.size, 4, none⟩) (Nat.le_refl _) _).setCell (p := ⟨w.heap.size + 1, 0, none⟩) (Nat.le_succ _) _).setCell (p := ⟨w.heap.size + 1, 1, none⟩) (Nat.le_succ _) _).setCell (p := ⟨w.heap.size + 1, 2, none⟩) (Nat.le_succ _) _).setCell (p := ⟨w.heap.size + 1, 3, none⟩) (Nat.le_succ _) _).setCell (p := ⟨w.heap.size + 1, 4, none⟩) (Nat.le_succ _) _)
  generalize ((((((w5.setCell ⟨w.heap.size, 4, none⟩ (.slice (some ⟨gy, oy, none⟩) (n - 1) c2)).setCell ⟨w.heap.size + 1, 0, none⟩ (.int .i64 kd)).setCell ⟨w.heap.size + 1, 1, none⟩ (.int .u64 wd)).setCell ⟨w.heap.size + 1, 2, none⟩ (.string pf)).setCell ⟨w.heap.size + 1, 3, none⟩ (.slice (some ⟨gx, ox, none⟩) (n - 1) c1)).setCell ⟨w.heap.size + 1, 4, none⟩ (.slice (some ⟨gy, oy, none⟩) (n - 1) c2)) = w6 at *
  have e0 : w6.cell? ⟨w.heap.size + 1, 0, none⟩ = some (.int .i64 kd) := cell_of h12 0
  have e1 : w6.cell? ⟨w.heap.size + 1, 1, none⟩ = some (.int .u64 wd) := cell_of h12 1
  have e2 : w6.cell? ⟨w.heap.size + 1, 2, none⟩ = some (.string pf) := cell_of h12 2
  have e3 : w6.cell? ⟨w.heap.size + 1, 3, none⟩ = some (.slice (some ⟨gx, ox, none⟩) (n - 1) c1) := cell_of h12 3
  have e4 : w6.cell? ⟨w.heap.size + 1, 4, none⟩ = some (.slice (some ⟨gy, oy, none⟩) (n - 1) c2) := cell_of h12 4
  exact bodyPost_ret (v := .tuple #[nodeV kd wd pf (some ⟨gx, ox, none⟩) c1 (some ⟨gy, oy, none⟩) c2 (n - 1), .bool true]) (by simp [results, Try.results20, go_sem, e0, e1, e2, e3, e4, nodeV]) rfl
    ⟨_, rfl, _, c1, _, c2, rfl, (HM7.out.same fun g hg => far g (HM7.out.lt g hg).1).lower (by omega), (HM8.out.same fun g hg => far g (HM8.out.lt g hg).1).lower (by omega), bel⟩
end Go.Proofs.Ytononinmjijhoaa
