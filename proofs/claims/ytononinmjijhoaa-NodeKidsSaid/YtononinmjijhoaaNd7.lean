/-
  Regions of drawn order whose callees make memory but change nothing that was (a class of worlds: 'behind w0 below S'), and node.Turn where there is no room; no condition.
-/
import Derived.Test.YtononinmjijhoaaNd5
namespace Go.Proofs.Ytononinmjijhoaa
open Go.RowKit Go.WideShapes Go.ChangeShapes
set_option linter.all false
/-- The worlds in which all below S stands as in w0. -/
def Cls (S : Nat) (w0 w : World) : Prop := S ≤ w0.heap.size ∧ Below S w0 w
theorem Cls.cell {S : Nat} {w0 w : World} (h : Cls S w0 w) {b : Nat} (hb : b < S) (j : Nat) (v : Option Value) (hv : w0.cell? ⟨b, j, none⟩ = v) : w.cell? ⟨b, j, none⟩ = v := by
  rw [← hv]
  simp only [World.cell?]
  rw [h.2.block b hb]
theorem Cls.next {S : Nat} {w0 w w' : World} (h : Cls S w0 w) (k : Below w.heap.size w w') : Cls S w0 w' := ⟨h.1, h.2.trans (k.mono (Nat.le_trans h.1 h.2.size))⟩
/-- ONE WALK FOR A REGION OF DRAWN ORDER over that class. -/
theorem wp_region_cls {P : Program} {S id : Nat} {Q : Exit → Act → World → Prop} {a : Act} {w : World} {l : List Oper} (hm : P.follows .mixedOrders = true) (hB : Region.lexB .any l.toArray = true) (hS : S ≤ w.heap.size)
    (h : wpQuiet P l.toArray (Cls S w) (fun a' => ∀ w', Cls S w w' → Q .normal a' w') l a) : (Code.region id l.toArray true).wp P Q a w :=
  wp_region_quiet (C := Cls S w) hm hB ⟨hS, (Below.refl S w).drew⟩ (by simpa using h)
theorem cls_yes {c : Prop} [Decidable c] {A B : Prop} (h : c) (a : A) : if c then A else B := by rw [if_pos h]; exact a
theorem cls_no {c : Prop} [Decidable c] {A B : Prop} (h : ¬ c) (a : B) : if c then A else B := by rw [if_neg h]; exact a
theorem not_of_false {b : Bool} (h : b = false) : ¬ b = true := by simp [h]
set_option maxRecDepth 100000 in
set_option maxHeartbeats 1600000 in
theorem turn_no (kd wd : Int) (pf : ByteArray) (A : Option Addr) (c : Nat) (A' : Option Addr) (c' n : Nat) (xs ys : List Int) (to : Int) (w : World) (h : NodeL kd wd pf xs ys n) (hn : n ≤ 256) (ht : highV to < (n : Int))
    (hx : Reads w w.heap.size 1 A n (xs.map (Value.int .u8))) (hy : Reads w w.heap.size 1 A' n (ys.map (Value.int .i64))) :
    Calls Try.prog 11 #[nodeV kd wd pf A c A' c' n, .int .i64 to] w fun e w' => e = .returned (.tuple #[nodeV 0 0 ⟨#[]⟩ none 0 none 0 0, .bool false]) ∧ Below w.heap.size w w' := by
  obtain ⟨wb, hwb⟩ : ∃ wb, (w.alloc (.cells #[.int .i64 kd, .int .u64 wd, .string pf, .slice A n c, .slice A' n c'] 28)).alloc (.cells #[.int .i64 0, .int .u64 0, .string ⟨#[]⟩, .slice none 0 0, .slice none 0 0] 28) = wb := ⟨_, rfl⟩
  have HSZ : Hid (wb.heap.size = w.heap.size + 2) := Lib.hid (by rw [← hwb]; simp)
  have HBW : Hid (Below w.heap.size w wb) := Lib.hid (by rw [← hwb]; exact ((Below.refl _ _).alloc (Nat.le_refl _) _).alloc (by simp) _)
  have HBOX : Hid (Bx w.heap.size #[.int .i64 kd, .int .u64 wd, .string pf, .slice A n c, .slice A' n c'] #[.int .i64 0, .int .u64 0, .string ⟨#[]⟩, .slice none 0 0, .slice none 0 0] wb) := Lib.hid (by
    rw [← hwb]
    refine ⟨?_, ?_⟩
    · rw [heap_alloc_old _ _ (by simp)]; exact heap_alloc_new _ _
    · have := heap_alloc_new (w.alloc (.cells #[.int .i64 kd, .int .u64 wd, .string pf, .slice A n c, .slice A' n c'] 28)) (.cells #[.int .i64 0, .int .u64 0, .string ⟨#[]⟩, .slice none 0 0, .slice none 0 0] 28)
      simpa using this)
  have HX : Hid (Reads wb wb.heap.size 1 A n (xs.map (Value.int .u8))) := Lib.hid ((hx.below HBW.out).more HBW.out.size)
  have HY : Hid (Reads wb wb.heap.size 1 A' n (ys.map (Value.int .i64))) := Lib.hid ((hy.below HBW.out).more HBW.out.size)
  have HW := Lib.hid hwb
  have HL := Lib.hid h
  have t1 : highV to < (n : Int) := ht
  clear hx hy h hwb ht
  unfold nodeV
  go_enter Try.func11, Try.ntmps11
  go_wp2
  rw [HW.out]
  refine wp_region_cls (S := w.heap.size + 2) (by kernel_rfl) (by kernel_rfl) (by rw [HSZ.out]; exact Nat.le_refl _) ?_
  repeat
    (refine wpQuiet_step (fun K hK => ?_)
     first
       | (refine cls_no (not_of_false ?_) ?_
          focus (go_simp; done)
          go_simp
          refine hK _ ?_; clear hK K)
       | (refine cls_yes ?_ ?_
          focus (go_simp; done)
          apply Exists.intro
          refine ⟨fun wc hc => ?_, ?_⟩
          focus
            have k0 := hc.cell (b := w.heap.size) (by omega) 0 _ (cell_of HBOX.out.1 0)
            have k1 := hc.cell (b := w.heap.size) (by omega) 1 _ (cell_of HBOX.out.1 1)
            have k2 := hc.cell (b := w.heap.size) (by omega) 2 _ (cell_of HBOX.out.1 2)
            have k3 := hc.cell (b := w.heap.size) (by omega) 3 _ (cell_of HBOX.out.1 3)
            have k4 := hc.cell (b := w.heap.size) (by omega) 4 _ (cell_of HBOX.out.1 4)
            go_simp
            first
              | done
              | (go_at_call 21; exact (right_any kd wd pf A c A' c' n xs ys wc HL.out hn ((HX.out.below (hc.2.mono (by rw [HSZ.out]; exact Nat.le_refl _))).more (hc.2.size)) ((HY.out.below (hc.2.mono (by rw [HSZ.out]; exact Nat.le_refl _))).more (hc.2.size))).mono fun e w' ⟨h1, h2⟩ => ⟨h1, hc.next h2⟩)
              | (go_at_call 12; exact (high_any to _).mono fun e w' ⟨h1, h2⟩ => ⟨h1, h2 ▸ hc⟩)
              | rfl
          go_simp
          refine hK _ ?_; clear hK K)
       | fail)
  refine wpQuiet_nil ?_
  intro w1 hc1
  have HC := Lib.hid hc1
  have hr1 : w1.heap[w.heap.size + 1]? = some (.cells #[.int .i64 0, .int .u64 0, .string ⟨#[]⟩, .slice none 0 0, .slice none 0 0] 28 (0, 0)) := (heap_below hc1.2 (by omega)).trans HBOX.out.2
  have q0 := frozen_of hr1 0
  have r0 := cell_of hr1 0
  have q1 := frozen_of hr1 1
  have r1 := cell_of hr1 1
  have q2 := frozen_of hr1 2
  have r2 := cell_of hr1 2
  have q3 := frozen_of hr1 3
  have r3 := cell_of hr1 3
  have q4 := frozen_of hr1 4
  have r4 := cell_of hr1 4
  clear hc1 t1
  have HR := Lib.hid hr1
  clear hr1
  go_wp2
  have h5 := (heap_setCell_same _ _ 4 _ _ (.slice none 0 0) (heap_setCell_same _ _ 3 _ _ (.slice none 0 0) (heap_setCell_same _ _ 2 _ _ (.string ⟨#[]⟩) (heap_setCell_same _ _ 1 _ _ (.int .u64 0) (heap_setCell_same _ _ 0 _ _ (.int .i64 0) HR.out)))))
  have bel : Below w.heap.size w (((((w1.setCell ⟨w.heap.size + 1, 0, none⟩ (.int .i64 0)).setCell ⟨w.heap.size + 1, 1, none⟩ (.int .u64 0)).setCell ⟨w.heap.size + 1, 2, none⟩ (.string ⟨#[]⟩)).setCell ⟨w.heap.size + 1, 3, none⟩ (.slice none 0 0)).setCell ⟨w.heap.size + 1, 4, none⟩ (.slice none 0 0)) := ((((((HBW.out.trans (HC.out.2.mono (by omega))).setCell (p := ⟨w.heap.size + 1, 0, none⟩) (Nat.le_succ _) _).setCell (p := ⟨w.heap.size + 1, 1, none⟩) (Nat.le_succ _) _).setCell (p := ⟨w.heap.size + 1, 2, none⟩) (Nat.le_succ _) _).setCell (p := ⟨w.heap.size + 1, 3, none⟩) (Nat.le_succ _) _).setCell (p := ⟨w.heap.size + 1, 4, none⟩) (Nat.le_succ _) _)
  generalize (((((w1.setCell ⟨w.heap.size + 1, 0, none⟩ (.int .i64 0)).setCell ⟨w.heap.size + 1, 1, none⟩ (.int .u64 0)).setCell ⟨w.heap.size + 1, 2, none⟩ (.string ⟨#[]⟩)).setCell ⟨w.heap.size + 1, 3, none⟩ (.slice none 0 0)).setCell ⟨w.heap.size + 1, 4, none⟩ (.slice none 0 0)) = w5 at *
  have e0 : w5.cell? ⟨w.heap.size + 1, 0, none⟩ = some (.int .i64 0) := cell_of h5 0
  have e1 : w5.cell? ⟨w.heap.size + 1, 1, none⟩ = some (.int .u64 0) := cell_of h5 1
  have e2 : w5.cell? ⟨w.heap.size + 1, 2, none⟩ = some (.string ⟨#[]⟩) := cell_of h5 2
  have e3 : w5.cell? ⟨w.heap.size + 1, 3, none⟩ = some (.slice none 0 0) := cell_of h5 3
  have e4 : w5.cell? ⟨w.heap.size + 1, 4, none⟩ = some (.slice none 0 0) := cell_of h5 4
  exact bodyPost_ret (v := .tuple #[nodeV 0 0 ⟨#[]⟩ none 0 none 0 0, .bool false]) (by simp [results, Try.results11, go_sem, e0, e1, e2, e3, e4, nodeV]) rfl ⟨rfl, bel⟩
end Go.Proofs.Ytononinmjijhoaa
