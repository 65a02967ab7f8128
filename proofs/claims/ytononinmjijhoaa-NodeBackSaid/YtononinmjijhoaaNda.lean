/-
  node.With at a right node and a ref: a child that is there is replaced; conditions: lengths.
-/
import Derived.Test.YtononinmjijhoaaNd9
namespace Go.Proofs.Ytononinmjijhoaa
open Go.RowKit Go.WideShapes Go.ChangeShapes
set_option linter.all false
theorem Mid.warm {w : World} {base size n g off cap : Nat} {t : TypeId} {xs : List Value} (h : Mid w base t size (.slice (some ⟨g, off, none⟩) n cap) n xs) (j : Nat) : w.frozen? ⟨g, j, none⟩ = false := by
  rcases h.2 with ⟨h', _⟩ | ⟨g', off', cap', cur, h', _, hh, _⟩
  · cases h'
  · simp only [Value.slice.injEq, Option.some.injEq, Addr.mk.injEq, and_true, true_and] at h'
    obtain ⟨⟨rfl, rfl⟩, rfl⟩ := h'
    exact frozen_of hh j
theorem Mid.set {w : World} {base n g off cap i : Nat} {t : TypeId} {xs : List Value} {v : Value} (h : Mid w base t 1 (.slice (some ⟨g, off, none⟩) n cap) n xs) (hi : i < n) : Mid (w.setCell ⟨g, off + i, none⟩ v) base t 1 (.slice (some ⟨g, off, none⟩) n cap) n (xs.set i v) := by
  have hl : xs.length = n := by have := h.1; omega
  rcases h.2 with ⟨h', _⟩ | ⟨g', off', cap', cur, h', hb, hh, hnc, hcm, hs, hx⟩
  · cases h'
  · simp only [Value.slice.injEq, Option.some.injEq, Addr.mk.injEq, and_true, true_and] at h'
    obtain ⟨⟨rfl, rfl⟩, rfl⟩ := h'
    refine Mid.of_get (by simpa using hl) hb (heap_setCell_same _ _ _ _ _ _ hh) hnc hcm (by simp; omega) (fun k hk => ?_)
    have h0 : cur[off + k]? = xs[k]? := by rw [← hx, List.getElem?_take, if_pos (by omega), List.getElem?_drop]; simp
    rw [Array.getElem?_setIfInBounds, List.getElem?_set]
    by_cases e : i = k
    · subst e; rw [if_pos rfl, if_pos rfl, if_pos (by omega), if_pos (by omega)]
    · rw [if_neg (by omega), if_neg e]; exact h0
theorem Mid.apart {w : World} {b b' n n' : Nat} {v v' : Value} {xs ys : List Value} (h : Mid w b 5 1 v n xs) (h' : Mid w b' 3 1 v' n' ys) {g g' : Nat} (hg : v.ownBlock = some g) (hg' : v'.ownBlock = some g') : g ≠ g' := by
  rintro rfl
  rcases h.2 with ⟨rfl, _⟩ | ⟨g1, _, _, _, rfl, _, h1, _⟩
  · cases hg
  rcases h'.2 with ⟨rfl, _⟩ | ⟨g2, _, _, _, rfl, _, h2, _⟩
  · cases hg'
  have e1 : g1 = g := by simpa [Value.ownBlock] using hg
  have e2 : g2 = g := by simpa [Value.ownBlock] using hg'
  rw [e1] at h1
  rw [e2, h1] at h2
  simp only [Option.some.injEq, Obj.cells.injEq] at h2
  exact absurd h2.2.1 (by decide)
set_option maxRecDepth 100000 in
set_option maxHeartbeats 3200000 in
theorem with_put (kd wd : Int) (pf : ByteArray) (A : Option Addr) (c : Nat) (A' : Option Addr) (c' n : Nat) (xs ys : List Int) (b kid s g : Int) (l : Bool) (w : World) (h : NodeL kd wd pf xs ys n) (hn : n ≤ 256) (hk : kid = refV s g l) (h0 : 0 ≤ s) (h1 : s < 1024) (h2 : 1 ≤ g) (h3 : g ≤ 1073741824) (hthere : isN b xs = true) (hi : lowN b xs < n)
    (hx : Reads w w.heap.size 1 A n (xs.map (Value.int .u8))) (hy : Reads w w.heap.size 1 A' n (ys.map (Value.int .i64))) :
    Calls Try.prog 19 #[nodeV kd wd pf A c A' c' n, .int .u8 b, .int .i64 kid] w fun e w' => ∃ v, e = .returned (.tuple #[v, .bool true]) ∧ NV w.heap.size kd wd pf xs (ys.set (lowN b xs) kid) n w v w' := by
  obtain ⟨wb, hwb⟩ : ∃ wb, (w.alloc (.cells #[.int .i64 kd, .int .u64 wd, .string pf, .slice A n c, .slice A' n c'] 28)).alloc (.cells #[.int .i64 0, .int .u64 0, .string ⟨#[]⟩, .slice none 0 0, .slice none 0 0] 28) = wb := ⟨_, rfl⟩
  have HSZ : Hid (wb.heap.size = w.heap.size + 2) := Lib.hid (by rw [← hwb]; simp)
  have HBW : Hid (Below w.heap.size w wb) := Lib.hid (by rw [← hwb]; exact ((Below.refl _ _).alloc (Nat.le_refl _) _).alloc (by simp) _)
  have HBOX : Hid (Bx w.heap.size #[.int .i64 kd, .int .u64 wd, .string pf, .slice A n c, .slice A' n c'] #[.int .i64 0, .int .u64 0, .string ⟨#[]⟩, .slice none 0 0, .slice none 0 0] wb) := Lib.hid (by
    rw [← hwb]
    refine ⟨?_, ?_⟩
    · rw [heap_alloc_old _ _ (by simp)]; exact heap_alloc_new _ _
    · have := heap_alloc_new (w.alloc (.cells #[.int .i64 kd, .int .u64 wd, .string pf, .slice A n c, .slice A' n c'] 28)) (.cells #[.int .i64 0, .int .u64 0, .string ⟨#[]⟩, .slice none 0 0, .slice none 0 0] 28)
      simpa using this)
  have HX : Hid (Reads wb wb.heap.size 1 A n (xs.map (Value.int .u8))) := Lib.hid ((hx.below HBW.out).more HBW.out.size)
  have HY : Hid (Reads wb wb.heap.size 1 A' n (ys.map (Value.int .i64))) := Lib.hid ((hy.below HBW.out).more HBW.out.size)
  have LX : Hid (xs.length = n) := Lib.hid (klen hx)
  have LY : Hid (ys.length = n) := Lib.hid (klen hy)
  have HW := Lib.hid hwb
  have HL := Lib.hid h
  have HK := Lib.hid hk
  have HT := Lib.hid hthere
  have HG := Lib.hid (And.intro h0 (And.intro h1 (And.intro h2 h3)))
  obtain ⟨i, hii⟩ : ∃ i, i = lowN b xs := ⟨_, rfl⟩
  have HI := Lib.hid hii
  rw [← hii] at hi ⊢
  have hiI : (i : Int) < (n : Int) := by omega
  clear hii
  have F1 : Hid True := trivial
  clear hx hy h hwb hk hthere h0 h1 h2 h3
  unfold nodeV
  go_enter Try.func19, Try.ntmps19
  go_wp2_with (first
    | (go_at_call 21; clear F1; rw [HW.out]; refine (right_any kd wd pf A c A' c' n xs ys wb HL.out hn HX.out HY.out).mono ?_
       rintro e w1 ⟨rfl, hb1⟩
       have HB1 := Lib.hid hb1
       have HX1 : Hid (Reads w1 w1.heap.size 1 A n (xs.map (Value.int .u8))) := Lib.hid ((HX.out.below HB1.out).more HB1.out.size)
       have HY1 : Hid (Reads w1 w1.heap.size 1 A' n (ys.map (Value.int .i64))) := Lib.hid ((HY.out.below HB1.out).more HB1.out.size)
       have HH1 : Hid (w1.heap[w.heap.size]? = some (.cells #[.int .i64 kd, .int .u64 wd, .string pf, .slice A n c, .slice A' n c'] 28 (0, 0))) := Lib.hid ((heap_below HB1.out (by rw [HSZ.out]; omega)).trans HBOX.out.1)
       have HR1 : Hid (w1.heap[w.heap.size + 1]? = some (.cells #[.int .i64 0, .int .u64 0, .string ⟨#[]⟩, .slice none 0 0, .slice none 0 0] 28 (0, 0))) := Lib.hid ((heap_below HB1.out (by rw [HSZ.out]; omega)).trans HBOX.out.2)
       have HS1 : Hid (w.heap.size + 2 ≤ w1.heap.size) := Lib.hid (by have := HB1.out.size; rw [HSZ.out] at this; exact this)
       have k0 := cell_of HH1.out 0
       have k1 := cell_of HH1.out 1
       have k2 := cell_of HH1.out 2
       have k3 := cell_of HH1.out 3
       have k4 := cell_of HH1.out 4
       have F2 : Hid True := trivial
       clear hb1)
    | (go_at_call 29; rw [HK.out]; refine (noRef_any s g l HG.out.1 HG.out.2.1 HG.out.2.2.1 HG.out.2.2.2 _).mono ?_; rintro e w' ⟨rfl, hw'⟩; replace hw' := hw'.symm; subst hw'; rw [← HK.out])
    | (go_at_call 27; clear F2; refine (sep_any kd wd pf A c A' c' n xs ys w1 hn HX1.out HY1.out).mono ?_
       rintro e w2 ⟨vv, rfl, A1, c1, A2, c2, rfl, hm1, hm2, hb2⟩
       unfold nodeV
       have HB2 := Lib.hid hb2
       have g0 : w2.heap[w.heap.size]? = some (.cells #[.int .i64 kd, .int .u64 wd, .string pf, .slice A n c, .slice A' n c'] 28 (0, 0)) := (heap_below hb2 (by have := HS1.out; omega)).trans HH1.out
       have g1 : w2.heap[w.heap.size + 1]? = some (.cells #[.int .i64 0, .int .u64 0, .string ⟨#[]⟩, .slice none 0 0, .slice none 0 0] 28 (0, 0)) := (heap_below hb2 (by have := HS1.out; omega)).trans HR1.out
       have j0 := cell_of g0 0
       have q0 := frozen_of g0 0
       have j1 := cell_of g0 1
       have q1 := frozen_of g0 1
       have j2 := cell_of g0 2
       have q2 := frozen_of g0 2
       have j3 := cell_of g0 3
       have q3 := frozen_of g0 3
       have j4 := cell_of g0 4
       have q4 := frozen_of g0 4
       have g5 : (((((w2.setCell ⟨w.heap.size, 0, none⟩ (.int .i64 kd)).setCell ⟨w.heap.size, 1, none⟩ (.int .u64 wd)).setCell ⟨w.heap.size, 2, none⟩ (.string pf)).setCell ⟨w.heap.size, 3, none⟩ (.slice A1 n c1)).setCell ⟨w.heap.size, 4, none⟩ (.slice A2 n c2)).heap[w.heap.size]? = some (.cells #[.int .i64 kd, .int .u64 wd, .string pf, .slice A1 n c1, .slice A2 n c2] 28 (0, 0)) := (heap_setCell_same _ _ 4 _ _ (.slice A2 n c2) (heap_setCell_same _ _ 3 _ _ (.slice A1 n c1) (heap_setCell_same _ _ 2 _ _ (.string pf) (heap_setCell_same _ _ 1 _ _ (.int .u64 wd) (heap_setCell_same _ _ 0 _ _ (.int .i64 kd) g0)))))
       have g6 : (((((w2.setCell ⟨w.heap.size, 0, none⟩ (.int .i64 kd)).setCell ⟨w.heap.size, 1, none⟩ (.int .u64 wd)).setCell ⟨w.heap.size, 2, none⟩ (.string pf)).setCell ⟨w.heap.size, 3, none⟩ (.slice A1 n c1)).setCell ⟨w.heap.size, 4, none⟩ (.slice A2 n c2)).heap[w.heap.size + 1]? = some (.cells #[.int .i64 0, .int .u64 0, .string ⟨#[]⟩, .slice none 0 0, .slice none 0 0] 28 (0, 0)) := by
         refine heap_far ?_ (heap_far ?_ (heap_far ?_ (heap_far ?_ (heap_far ?_ g1)))) <;> (show w.heap.size + 1 ≠ w.heap.size; omega)
       have far : ∀ g, w.heap.size + 2 ≤ g → (((((w2.setCell ⟨w.heap.size, 0, none⟩ (.int .i64 kd)).setCell ⟨w.heap.size, 1, none⟩ (.int .u64 wd)).setCell ⟨w.heap.size, 2, none⟩ (.string pf)).setCell ⟨w.heap.size, 3, none⟩ (.slice A1 n c1)).setCell ⟨w.heap.size, 4, none⟩ (.slice A2 n c2)).heap[g]? = w2.heap[g]? := fun g hg => by
         refine heap_far ?_ (heap_far ?_ (heap_far ?_ (heap_far ?_ (heap_far ?_ rfl)))) <;> (show g ≠ w.heap.size; omega)
       have HB3 : Hid (Below w.heap.size w (((((w2.setCell ⟨w.heap.size, 0, none⟩ (.int .i64 kd)).setCell ⟨w.heap.size, 1, none⟩ (.int .u64 wd)).setCell ⟨w.heap.size, 2, none⟩ (.string pf)).setCell ⟨w.heap.size, 3, none⟩ (.slice A1 n c1)).setCell ⟨w.heap.size, 4, none⟩ (.slice A2 n c2))) := Lib.hid ((((((((HBW.out.trans (HB1.out.mono (by rw [HSZ.out]; omega)))).trans (HB2.out.mono (by have := HS1.out; omega))).setCell (p := ⟨w.heap.size, 0, none⟩) (Nat.le_refl _) _).setCell (p := ⟨w.heap.size, 1, none⟩) (Nat.le_refl _) _).setCell (p := ⟨w.heap.size, 2, none⟩) (Nat.le_refl _) _).setCell (p := ⟨w.heap.size, 3, none⟩) (Nat.le_refl _) _).setCell (p := ⟨w.heap.size, 4, none⟩) (Nat.le_refl _) _)
       have hm3 : Mid (((((w2.setCell ⟨w.heap.size, 0, none⟩ (.int .i64 kd)).setCell ⟨w.heap.size, 1, none⟩ (.int .u64 wd)).setCell ⟨w.heap.size, 2, none⟩ (.string pf)).setCell ⟨w.heap.size, 3, none⟩ (.slice A1 n c1)).setCell ⟨w.heap.size, 4, none⟩ (.slice A2 n c2)) (w.heap.size + 2) 5 1 (.slice A1 n c1) n (xs.map (Value.int .u8)) := (hm1.same fun g hg => far g (by have := (hm1.lt g hg).1; have := HS1.out; omega)).lower HS1.out
       have hm4 : Mid (((((w2.setCell ⟨w.heap.size, 0, none⟩ (.int .i64 kd)).setCell ⟨w.heap.size, 1, none⟩ (.int .u64 wd)).setCell ⟨w.heap.size, 2, none⟩ (.string pf)).setCell ⟨w.heap.size, 3, none⟩ (.slice A1 n c1)).setCell ⟨w.heap.size, 4, none⟩ (.slice A2 n c2)) (w.heap.size + 2) 3 1 (.slice A2 n c2) n (ys.map (Value.int .i64)) := (hm2.same fun g hg => far g (by have := (hm2.lt g hg).1; have := HS1.out; omega)).lower HS1.out
       have HM3 := Lib.hid hm3
       have HM4 := Lib.hid hm4
       have HS3 : Hid (w.heap.size + 2 ≤ (((((w2.setCell ⟨w.heap.size, 0, none⟩ (.int .i64 kd)).setCell ⟨w.heap.size, 1, none⟩ (.int .u64 wd)).setCell ⟨w.heap.size, 2, none⟩ (.string pf)).setCell ⟨w.heap.size, 3, none⟩ (.slice A1 n c1)).setCell ⟨w.heap.size, 4, none⟩ (.slice A2 n c2)).heap.size) := Lib.hid (by have h1 := HS1.out; have h2 := hb2.size; simp; omega)
       have HH3 := Lib.hid g5
       have HR3 := Lib.hid g6
       have m3 := cell_of g5 3
       clear hm1 hm2 hm3 hm4 hb2 g0 g1 g5 g6 far k0 k1 k2 k3 k4
       have F3 : Hid True := trivial)
    | (go_at_call 30; clear F3; refine (bs_any A1 n c1 xs b _ (HM3.out.reads) (by omega) HL.out.asc).mono ?_
       rintro e w3 ⟨rfl, hw3⟩
       replace hw3 := hw3.symm
       rw [HT.out]
       generalize (((((w2.setCell ⟨w.heap.size, 0, none⟩ (.int .i64 kd)).setCell ⟨w.heap.size, 1, none⟩ (.int .u64 wd)).setCell ⟨w.heap.size, 2, none⟩ (.string pf)).setCell ⟨w.heap.size, 3, none⟩ (.slice A1 n c1)).setCell ⟨w.heap.size, 4, none⟩ (.slice A2 n c2)) = wq at *
       subst hw3
       rw [← HI.out]
       obtain ⟨gk, ok, rfl⟩ : ∃ gk ok, A2 = some ⟨gk, ok, none⟩ := by
         rcases HM4.out.2 with ⟨_, q⟩ | ⟨gk, ok, _, _, q, _⟩
         · omega
         · injection q with q _ _; exact ⟨gk, ok, q⟩
       have m4 : wq.cell? ⟨w.heap.size, 4, none⟩ = some (.slice (some ⟨gk, ok, none⟩) n c2) := cell_of HH3.out 4
       have hgk := (HM4.out.lt gk rfl).1
       have z0 : wq.cell? ⟨gk, ok + i, none⟩ = some (.int .i64 (ys.getD i 0)) := HM4.out.cells i _ (by
         have : i < ys.length := by rw [LY.out]; exact hi
         rw [List.getElem?_map, List.getD_eq_getElem?_getD, List.getElem?_eq_getElem this]; rfl)
       have z1 : wq.frozen? ⟨gk, ok + i, none⟩ = false := HM4.out.warm _
       have t5 : (wq.setCell ⟨gk, ok + i, none⟩ (.int .i64 kid)).heap[w.heap.size]? = some (.cells #[.int .i64 kd, .int .u64 wd, .string pf, .slice A1 n c1, .slice (some ⟨gk, ok, none⟩) n c2] 28 (0, 0)) := heap_far (by show w.heap.size ≠ gk; omega) HH3.out
       have t6 : (wq.setCell ⟨gk, ok + i, none⟩ (.int .i64 kid)).heap[w.heap.size + 1]? = some (.cells #[.int .i64 0, .int .u64 0, .string ⟨#[]⟩, .slice none 0 0, .slice none 0 0] 28 (0, 0)) := heap_far (by show w.heap.size + 1 ≠ gk; omega) HR3.out
       have o0 := cell_of t5 0
       have o1 := cell_of t5 1
       have o2 := cell_of t5 2
       have o3 := cell_of t5 3
       have o4 := cell_of t5 4
       have u0 := cell_of t6 0
       have y0 := frozen_of t6 0
       have u1 := cell_of t6 1
       have y1 := frozen_of t6 1
       have u2 := cell_of t6 2
       have y2 := frozen_of t6 2
       have u3 := cell_of t6 3
       have y3 := frozen_of t6 3
       have u4 := cell_of t6 4
       have y4 := frozen_of t6 4
       have HT6 := Lib.hid t6
       clear t5 t6)
    | fail)
  have h12 := (heap_setCell_same _ _ 4 _ _ (.slice (some ⟨gk, ok, none⟩) n c2) (heap_setCell_same _ _ 3 _ _ (.slice A1 n c1) (heap_setCell_same _ _ 2 _ _ (.string pf) (heap_setCell_same _ _ 1 _ _ (.int .u64 wd) (heap_setCell_same _ _ 0 _ _ (.int .i64 kd) HT6.out)))))
  have far : ∀ g, w.heap.size + 2 ≤ g → ((((((wq.setCell ⟨gk, ok + i, none⟩ (.int .i64 kid)).setCell ⟨w.heap.size + 1, 0, none⟩ (.int .i64 kd)).setCell ⟨w.heap.size + 1, 1, none⟩ (.int .u64 wd)).setCell ⟨w.heap.size + 1, 2, none⟩ (.string pf)).setCell ⟨w.heap.size + 1, 3, none⟩ (.slice A1 n c1)).setCell ⟨w.heap.size + 1, 4, none⟩ (.slice (some ⟨gk, ok, none⟩) n c2)).heap[g]? = (wq.setCell ⟨gk, ok + i, none⟩ (.int .i64 kid)).heap[g]? := fun g hg => by
    refine heap_far ?_ (heap_far ?_ (heap_far ?_ (heap_far ?_ (heap_far ?_ rfl)))) <;> (show g ≠ w.heap.size + 1; omega)
  have bel : Below w.heap.size w ((((((wq.setCell ⟨gk, ok + i, none⟩ (.int .i64 kid)).setCell ⟨w.heap.size + 1, 0, none⟩ (.int .i64 kd)).setCell ⟨w.heap.size + 1, 1, none⟩ (.int .u64 wd)).setCell ⟨w.heap.size + 1, 2, none⟩ (.string pf)).setCell ⟨w.heap.size + 1, 3, none⟩ (.slice A1 n c1)).setCell ⟨w.heap.size + 1, 4, none⟩ (.slice (some ⟨gk, ok, none⟩) n c2)) := ((((((HB3.out.setCell (p := ⟨gk, ok + i, none⟩) (by show w.heap.size ≤ gk; have := (HM4.out.lt gk rfl).1; omega) _).setCell (p := ⟨w.heap.size + 1, 0, none⟩) (Nat.le_succ _) _).setCell (p := ⟨w.heap.size + 1, 1, none⟩) (Nat.le_succ _) _).setCell (p := ⟨w.heap.size + 1, 2, none⟩) (Nat.le_succ _) _).setCell (p := ⟨w.heap.size + 1, 3, none⟩) (Nat.le_succ _) _).setCell (p := ⟨w.heap.size + 1, 4, none⟩) (Nat.le_succ _) _)
  have HMk := (HM4.out.set hi (v := .int .i64 kid))
  have HMx : Mid (wq.setCell ⟨gk, ok + i, none⟩ (.int .i64 kid)) (w.heap.size + 2) 5 1 (.slice A1 n c1) n (xs.map (Value.int .u8)) := HM3.out.same fun g hg => heap_far (a := ⟨gk, ok + i, none⟩) (Mid.apart HM3.out HM4.out hg rfl) rfl
  clear o0 o1 o2 o3 o4 u0 u1 u2 u3 u4 y0 y1 y2 y3 y4 z0 z1 m4 m3
  generalize ((((((wq.setCell ⟨gk, ok + i, none⟩ (.int .i64 kid)).setCell ⟨w.heap.size + 1, 0, none⟩ (.int .i64 kd)).setCell ⟨w.heap.size + 1, 1, none⟩ (.int .u64 wd)).setCell ⟨w.heap.size + 1, 2, none⟩ (.string pf)).setCell ⟨w.heap.size + 1, 3, none⟩ (.slice A1 n c1)).setCell ⟨w.heap.size + 1, 4, none⟩ (.slice (some ⟨gk, ok, none⟩) n c2)) = w5 at *
  have e0 : w5.cell? ⟨w.heap.size + 1, 0, none⟩ = some (.int .i64 kd) := cell_of h12 0
  have e1 : w5.cell? ⟨w.heap.size + 1, 1, none⟩ = some (.int .u64 wd) := cell_of h12 1
  have e2 : w5.cell? ⟨w.heap.size + 1, 2, none⟩ = some (.string pf) := cell_of h12 2
  have e3 : w5.cell? ⟨w.heap.size + 1, 3, none⟩ = some (.slice A1 n c1) := cell_of h12 3
  have e4 : w5.cell? ⟨w.heap.size + 1, 4, none⟩ = some (.slice (some ⟨gk, ok, none⟩) n c2) := cell_of h12 4
  exact bodyPost_ret (v := .tuple #[nodeV kd wd pf A1 c1 (some ⟨gk, ok, none⟩) c2 n, .bool true]) (by simp [results, Try.results19, go_sem, e0, e1, e2, e3, e4, nodeV]) rfl
    ⟨_, rfl, A1, c1, _, c2, rfl, (HMx.same fun g hg => far g (HMx.lt g hg).1).lower (by omega), ((by rw [List.map_set]; exact HMk : Mid (wq.setCell ⟨gk, ok + i, none⟩ (.int .i64 kid)) _ 3 1 _ n ((ys.set i kid).map (Value.int .i64))).same fun g hg => far g (HMk.lt g hg).1).lower (by omega), bel⟩
end Go.Proofs.Ytononinmjijhoaa
