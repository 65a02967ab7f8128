/-
  NodeLeaves: any leaf, any words of eight, and back; condition: lengths that fit an int.
-/
import Derived.Test.YtkobgejeapcfkaaNkW
import Derived.Test.YtkobgejeapcfkaaNkF
namespace Go.Proofs.Ytkobgejeapcfkaa
open Go.RowKit Go.WideShapes Go.ChangeShapes
set_option linter.all false
theorem leafW_64 {k : ByteArray} {v : Int} (h : leafOk k v = true) : W64 (leafW k v) := by
  obtain ⟨s1, s2, v1, v2⟩ := leafOk_size h
  obtain ⟨a, b, h1, h2⟩ := leafW_shape k v (by omega)
  have h3 := wd_64 k 2 (by omega)
  rw [h1] at h3
  have q0 := h3 0
  have q1 := h3 1
  simp at q0 q1
  rw [h2]
  intro i
  match i with
  | 0 => simp
  | 1 => simp; omega
  | 2 => simpa using q0
  | 3 => simpa using q1
  | 4 => simp; omega
  | 5 => simp
  | 6 => simp
  | 7 => simp
  | n + 8 => simp
/-- Boxes of leaves. -/
theorem box2 (w : World) (k : ByteArray) (v : Int) : (w.alloc (.cells #[.string k, .int .i64 v] 23)).cell? ⟨w.heap.size, 0, none⟩ = some (.string k) ∧ (w.alloc (.cells #[.string k, .int .i64 v] 23)).cell? ⟨w.heap.size, 1, none⟩ = some (.int .i64 v) :=
  ⟨cell_of_row _ _ 0 #[.string k, .int .i64 v] 23 (0, 0) (heap_alloc_new w _), cell_of_row _ _ 1 #[.string k, .int .i64 v] 23 (0, 0) (heap_alloc_new w _)⟩
set_option maxRecDepth 100000 in
set_option maxHeartbeats 6400000 in
theorem leaves_bt (k : ByteArray) (v : Int) (xs : List Int) (own : Bool) (h9 : k.size ≤ 9223372036854775807) (hk : 40 < (k.size : Int)) (hx : xs.length = 8) (h64 : W64 xs) (K : ByteArray) (hK : K = k.extract 0 40) (hlo : leafOk K v = true) (w : World) : Calls Try.prog 4 #[.agg #[.string k, .int .i64 v], .agg (u64s xs).toArray, .bool own] w fun e w' => e = .returned (.bool true) ∧ Below w.heap.size w w' := by
  have HX := Lib.hid hx
  have H64 := Lib.hid h64
  have HKS : Hid (K.size ≤ 9223372036854775807) := Lib.hid (by rw [hK]; rw [ByteArray.size_extract]; omega)
  have HK := Lib.hid hK
  have e1 : (w.alloc (.cells #[.string K, .int .i64 v] 23)).heap.size = w.heap.size + 1 := by simp
  obtain ⟨w0, hw0⟩ : ∃ w0, w0 = (w.alloc (.cells #[.string K, .int .i64 v] 23)).alloc (.cells (u64s xs).toArray 37) := ⟨_, rfl⟩
  have HW0 := Lib.hid hw0
  have HR : Hid (Reads w0 w0.heap.size 1 (some ⟨w.heap.size + 1, 0, none⟩) 8 (u64s xs)) := Lib.hid (by
    have b : Blk w0 (w.heap.size + 1) 37 (u64s xs).toArray := by rw [hw0, ← e1]; exact Blk.new _ 37 _
    have := b.reads
    rw [show (u64s xs).length = 8 by simp [u64s, hx]] at this
    exact this)
  have a0 : w0.cell? ⟨w.heap.size, 0, none⟩ = some (.string K) := by rw [hw0]; exact (World.cell?_alloc_lt _ _ _ (by simp)).trans (box2 w K v).1
  have a1 : w0.cell? ⟨w.heap.size, 1, none⟩ = some (.int .i64 v) := by rw [hw0]; exact (World.cell?_alloc_lt _ _ _ (by simp)).trans (box2 w K v).2
  have HB : Hid (Below w.heap.size w w0) := Lib.hid (by rw [hw0]; exact ((Below.refl w.heap.size w).alloc (Nat.le_refl _) _).alloc (by simp) _)
  clear hx h64 h9 hw0 hK e1
  go_enter Try.func4, Try.ntmps4
  go_wp2_with fail
  try rw [← HK.out]
  rw [← HW0.out]
  have F1 : Hid True := Lib.hid trivial
  go_wp2_with (first
    | (go_at_call 10; clear F1; refine (decLeaf_any _ xs _ HR.out H64.out).mono ?_
       rintro e w1 ⟨kx, vx, okx, rfl, hd, hb1⟩
       have HD := Lib.hid hd
       replace a0 := (hb1.cell (World.block_lt_of_cell? _ _ a0)).trans a0
       replace a1 := (hb1.cell (World.block_lt_of_cell? _ _ a1)).trans a1
       replace HR := Lib.hid (HR.out.on hb1)
       replace HB := Lib.hid (after HB.out hb1)
       have b0 := (box2 w1 kx vx).1
       have b1 := (box2 w1 kx vx).2
       clear hd hb1)
    | (go_at_call 11; refine (rdec_any _ xs _ (HR.out.on (below_al w1 _)) H64.out).mono ?_
       rintro e w2 ⟨ky, vy, oky, rfl, hd, hb2⟩
       obtain ⟨e1, e2, e3⟩ := HD.out.uniq hd
       subst e1 e2 e3
       have hbb := after (below_al w1 (.cells #[.string kx, .int .i64 vx] 23)) hb2
       replace a0 := (hbb.cell (World.block_lt_of_cell? _ _ a0)).trans a0
       replace a1 := (hbb.cell (World.block_lt_of_cell? _ _ a1)).trans a1
       replace b0 := (hb2.cell (World.block_lt_of_cell? _ _ b0)).trans b0
       replace b1 := (hb2.cell (World.block_lt_of_cell? _ _ b1)).trans b1
       replace HB := Lib.hid (after HB.out hbb)
       have l0 : w.heap.size < w2.heap.size := World.block_lt_of_cell? _ _ a0
       have c0 := (box2 w2 kx vx).1
       have c1 := (box2 w2 kx vx).2
       clear hd hb2 hbb)
    | (go_at_call 7; refine (encLeaf_any K v HKS.out hlo _).mono ?_
       rintro e w3 ⟨ga, rfl, hr3, hb3⟩
       have hbb := after (below_al w2 (.cells #[.string kx, .int .i64 vx] 23)) hb3
       replace a0 := (hbb.cell (World.block_lt_of_cell? _ _ a0)).trans a0
       replace a1 := (hbb.cell (World.block_lt_of_cell? _ _ a1)).trans a1
       replace b0 := (hbb.cell (World.block_lt_of_cell? _ _ b0)).trans b0
       replace b1 := (hbb.cell (World.block_lt_of_cell? _ _ b1)).trans b1
       replace c0 := (hb3.cell (World.block_lt_of_cell? _ _ c0)).trans c0
       replace c1 := (hb3.cell (World.block_lt_of_cell? _ _ c1)).trans c1
       replace HB := Lib.hid (after HB.out hbb)
       have HE := Lib.hid hr3
       clear hr3
       clear hb3 hbb)
    | fail)
  replace a0 : w3.drew.cell? ⟨w.heap.size, 0, none⟩ = some (.string K) := a0
  replace a1 : w3.drew.cell? ⟨w.heap.size, 1, none⟩ = some (.int .i64 v) := a1
  replace b0 : w3.drew.cell? ⟨w1.heap.size, 0, none⟩ = some (.string kx) := b0
  replace b1 : w3.drew.cell? ⟨w1.heap.size, 1, none⟩ = some (.int .i64 vx) := b1
  replace c0 : w3.drew.cell? ⟨w2.heap.size, 0, none⟩ = some (.string kx) := c0
  replace c1 : w3.drew.cell? ⟨w2.heap.size, 1, none⟩ = some (.int .i64 vx) := c1
  replace HB := Lib.hid HB.out.drew
  replace HE := Lib.hid HE.out.drew
  have e4 : (okx != okx) = false := by cases okx <;> rfl
  have e2 : (kx.toList == kx.toList) = true := beq_self_eq_true _
  have e3 : (vx == vx) = true := beq_self_eq_true _
  go_region_held3 (fun w' => w'.cell? ⟨w.heap.size, 0, none⟩ = some (.string K) ∧ w'.cell? ⟨w.heap.size, 1, none⟩ = some (.int .i64 v) ∧ w'.cell? ⟨w1.heap.size, 0, none⟩ = some (.string kx) ∧ w'.cell? ⟨w1.heap.size, 1, none⟩ = some (.int .i64 vx) ∧ w'.cell? ⟨w2.heap.size, 0, none⟩ = some (.string kx) ∧ w'.cell? ⟨w2.heap.size, 1, none⟩ = some (.int .i64 vx)) (first | (go_keep; done) | exact ⟨a0, a1, b0, b1, c0, c1⟩)
    (first
      | (go_at_call 5; refine (rightLeaf_any K v HKS.out _).mono ?_
         rintro e w4 ⟨rfl, hb4⟩
         rw [hlo]
         replace a0 := (hb4.cell (World.block_lt_of_cell? _ _ a0)).trans a0
         replace a1 := (hb4.cell (World.block_lt_of_cell? _ _ a1)).trans a1
         replace b0 := (hb4.cell (World.block_lt_of_cell? _ _ b0)).trans b0
         replace b1 := (hb4.cell (World.block_lt_of_cell? _ _ b1)).trans b1
         replace c0 := (hb4.cell (World.block_lt_of_cell? _ _ c0)).trans c0
         replace c1 := (hb4.cell (World.block_lt_of_cell? _ _ c1)).trans c1
         replace HB := Lib.hid (after HB.out hb4)
         replace HE := Lib.hid (HE.out.on hb4)
         clear hb4)
      | (go_at_call 12; refine (rrightLeaf_any K v HKS.out _).mono ?_
         rintro e w5 ⟨rfl, hb5⟩
         rw [hlo]
         replace a0 := (hb5.cell (World.block_lt_of_cell? _ _ a0)).trans a0
         replace a1 := (hb5.cell (World.block_lt_of_cell? _ _ a1)).trans a1
         replace b0 := (hb5.cell (World.block_lt_of_cell? _ _ b0)).trans b0
         replace b1 := (hb5.cell (World.block_lt_of_cell? _ _ b1)).trans b1
         replace c0 := (hb5.cell (World.block_lt_of_cell? _ _ c0)).trans c0
         replace c1 := (hb5.cell (World.block_lt_of_cell? _ _ c1)).trans c1
         replace HB := Lib.hid (after HB.out hb5)
         replace HE := Lib.hid (HE.out.on hb5)
         clear hb5)
      | (go_at_call 13; refine (rencLeaf_any K v HKS.out hlo _).mono ?_
         rintro e w6 ⟨gb, rfl, hr6, hb6⟩
         have HG := Lib.hid hr6
         clear hr6
         replace a0 := (hb6.cell (World.block_lt_of_cell? _ _ a0)).trans a0
         replace a1 := (hb6.cell (World.block_lt_of_cell? _ _ a1)).trans a1
         replace b0 := (hb6.cell (World.block_lt_of_cell? _ _ b0)).trans b0
         replace b1 := (hb6.cell (World.block_lt_of_cell? _ _ b1)).trans b1
         replace c0 := (hb6.cell (World.block_lt_of_cell? _ _ c0)).trans c0
         replace c1 := (hb6.cell (World.block_lt_of_cell? _ _ c1)).trans c1
         replace HB := Lib.hid (after HB.out hb6)
         replace HE := Lib.hid (HE.out.on hb6)
         clear hb6)
      | (go_at_call 9; refine (same_any _ _ _ _ _ _ _ (leafW K v) (leafW K v) _ HE.out HG.out (by omega) (by omega)).mono ?_
         rintro e w7 ⟨rfl, hb7⟩
         rw [eqB_true rfl]
         replace a0 := (hb7.cell (World.block_lt_of_cell? _ _ a0)).trans a0
         replace a1 := (hb7.cell (World.block_lt_of_cell? _ _ a1)).trans a1
         replace b0 := (hb7.cell (World.block_lt_of_cell? _ _ b0)).trans b0
         replace b1 := (hb7.cell (World.block_lt_of_cell? _ _ b1)).trans b1
         replace c0 := (hb7.cell (World.block_lt_of_cell? _ _ c0)).trans c0
         replace c1 := (hb7.cell (World.block_lt_of_cell? _ _ c1)).trans c1
         replace HB := Lib.hid (after HB.out hb7)
         replace HE := Lib.hid (HE.out.on hb7)
         clear hb7))
  have HDL : Hid (DL (leafW K v) K v true) := Lib.hid ⟨fun _ => ⟨hlo, rfl⟩, (fun e => by cases e)⟩
  have H6 := Lib.hid (leafW_64 hlo)
  have e5 : (K.toList == K.toList) = true := beq_self_eq_true _
  have e6 : (v == v) = true := beq_self_eq_true _
  clear b0 b1 c0 c1 e2 e3 e4
  go_wp2_with (first
      | (go_at_call 5; refine (rightLeaf_any K v HKS.out _).mono ?_
         rintro e w8 ⟨rfl, hb8⟩
         rw [hlo]
         replace a0 := (hb8.cell (World.block_lt_of_cell? _ _ a0)).trans a0
         replace a1 := (hb8.cell (World.block_lt_of_cell? _ _ a1)).trans a1
         replace HB := Lib.hid (after HB.out hb8)
         replace HE := Lib.hid (HE.out.on hb8)
         clear hb8)
      | (go_at_call 10; refine (decLeaf_any _ (leafW K v) _ HE.out H6.out).mono ?_
         rintro e w9 ⟨kz, vz, okz, rfl, hd, hb9⟩
         obtain ⟨e1, e2, e3⟩ := HDL.out.uniq hd
         subst e1 e2 e3
         replace a0 := (hb9.cell (World.block_lt_of_cell? _ _ a0)).trans a0
         replace a1 := (hb9.cell (World.block_lt_of_cell? _ _ a1)).trans a1
         replace HB := Lib.hid (after HB.out hb9)
         have d0 := (box2 w9 K v).1
         have d1 := (box2 w9 K v).2
         have l9 : w.heap.size < w9.heap.size := World.block_lt_of_cell? _ _ a0
         clear hd hb9)
      | (go_at_call 6; refine (runs_any _).mono ?_
         rintro e w10 ⟨rfl, hb10⟩
         replace HB := Lib.hid (after HB.out (after (below_al w9 (.cells #[.string K, .int .i64 v] 23)) hb10))
         clear hb10)
      | fail)
  go_ret
  exact ⟨rfl, HB.out⟩
set_option maxRecDepth 100000 in
set_option maxHeartbeats 6400000 in
theorem leaves_bf (k : ByteArray) (v : Int) (xs : List Int) (own : Bool) (h9 : k.size ≤ 9223372036854775807) (hk : 40 < (k.size : Int)) (hx : xs.length = 8) (h64 : W64 xs) (K : ByteArray) (hK : K = k.extract 0 40) (hlo : leafOk K v = false) (w : World) : Calls Try.prog 4 #[.agg #[.string k, .int .i64 v], .agg (u64s xs).toArray, .bool own] w fun e w' => e = .returned (.bool true) ∧ Below w.heap.size w w' := by
  have HX := Lib.hid hx
  have H64 := Lib.hid h64
  have HKS : Hid (K.size ≤ 9223372036854775807) := Lib.hid (by rw [hK]; rw [ByteArray.size_extract]; omega)
  have HK := Lib.hid hK
  have e1 : (w.alloc (.cells #[.string K, .int .i64 v] 23)).heap.size = w.heap.size + 1 := by simp
  obtain ⟨w0, hw0⟩ : ∃ w0, w0 = (w.alloc (.cells #[.string K, .int .i64 v] 23)).alloc (.cells (u64s xs).toArray 37) := ⟨_, rfl⟩
  have HW0 := Lib.hid hw0
  have HR : Hid (Reads w0 w0.heap.size 1 (some ⟨w.heap.size + 1, 0, none⟩) 8 (u64s xs)) := Lib.hid (by
    have b : Blk w0 (w.heap.size + 1) 37 (u64s xs).toArray := by rw [hw0, ← e1]; exact Blk.new _ 37 _
    have := b.reads
    rw [show (u64s xs).length = 8 by simp [u64s, hx]] at this
    exact this)
  have a0 : w0.cell? ⟨w.heap.size, 0, none⟩ = some (.string K) := by rw [hw0]; exact (World.cell?_alloc_lt _ _ _ (by simp)).trans (box2 w K v).1
  have a1 : w0.cell? ⟨w.heap.size, 1, none⟩ = some (.int .i64 v) := by rw [hw0]; exact (World.cell?_alloc_lt _ _ _ (by simp)).trans (box2 w K v).2
  have HB : Hid (Below w.heap.size w w0) := Lib.hid (by rw [hw0]; exact ((Below.refl w.heap.size w).alloc (Nat.le_refl _) _).alloc (by simp) _)
  clear hx h64 h9 hw0 hK e1
  go_enter Try.func4, Try.ntmps4
  go_wp2_with fail
  try rw [← HK.out]
  rw [← HW0.out]
  have F1 : Hid True := Lib.hid trivial
  go_wp2_with (first
    | (go_at_call 10; clear F1; refine (decLeaf_any _ xs _ HR.out H64.out).mono ?_
       rintro e w1 ⟨kx, vx, okx, rfl, hd, hb1⟩
       have HD := Lib.hid hd
       replace a0 := (hb1.cell (World.block_lt_of_cell? _ _ a0)).trans a0
       replace a1 := (hb1.cell (World.block_lt_of_cell? _ _ a1)).trans a1
       replace HR := Lib.hid (HR.out.on hb1)
       replace HB := Lib.hid (after HB.out hb1)
       have b0 := (box2 w1 kx vx).1
       have b1 := (box2 w1 kx vx).2
       clear hd hb1)
    | (go_at_call 11; refine (rdec_any _ xs _ (HR.out.on (below_al w1 _)) H64.out).mono ?_
       rintro e w2 ⟨ky, vy, oky, rfl, hd, hb2⟩
       obtain ⟨e1, e2, e3⟩ := HD.out.uniq hd
       subst e1 e2 e3
       have hbb := after (below_al w1 (.cells #[.string kx, .int .i64 vx] 23)) hb2
       replace a0 := (hbb.cell (World.block_lt_of_cell? _ _ a0)).trans a0
       replace a1 := (hbb.cell (World.block_lt_of_cell? _ _ a1)).trans a1
       replace b0 := (hb2.cell (World.block_lt_of_cell? _ _ b0)).trans b0
       replace b1 := (hb2.cell (World.block_lt_of_cell? _ _ b1)).trans b1
       replace HB := Lib.hid (after HB.out hbb)
       have l0 : w.heap.size < w2.heap.size := World.block_lt_of_cell? _ _ a0
       have c0 := (box2 w2 kx vx).1
       have c1 := (box2 w2 kx vx).2
       clear hd hb2 hbb)
    | (go_at_call 7; refine (encLeaf_nil K v HKS.out hlo _).mono ?_
       rintro e w3 ⟨rfl, hb3⟩
       have hbb := after (below_al w2 (.cells #[.string kx, .int .i64 vx] 23)) hb3
       replace a0 := (hbb.cell (World.block_lt_of_cell? _ _ a0)).trans a0
       replace a1 := (hbb.cell (World.block_lt_of_cell? _ _ a1)).trans a1
       replace b0 := (hbb.cell (World.block_lt_of_cell? _ _ b0)).trans b0
       replace b1 := (hbb.cell (World.block_lt_of_cell? _ _ b1)).trans b1
       replace c0 := (hb3.cell (World.block_lt_of_cell? _ _ c0)).trans c0
       replace c1 := (hb3.cell (World.block_lt_of_cell? _ _ c1)).trans c1
       replace HB := Lib.hid (after HB.out hbb)
       clear hb3 hbb)
    | fail)
  replace a0 : w3.drew.cell? ⟨w.heap.size, 0, none⟩ = some (.string K) := a0
  replace a1 : w3.drew.cell? ⟨w.heap.size, 1, none⟩ = some (.int .i64 v) := a1
  replace b0 : w3.drew.cell? ⟨w1.heap.size, 0, none⟩ = some (.string kx) := b0
  replace b1 : w3.drew.cell? ⟨w1.heap.size, 1, none⟩ = some (.int .i64 vx) := b1
  replace c0 : w3.drew.cell? ⟨w2.heap.size, 0, none⟩ = some (.string kx) := c0
  replace c1 : w3.drew.cell? ⟨w2.heap.size, 1, none⟩ = some (.int .i64 vx) := c1
  replace HB := Lib.hid HB.out.drew
  have e4 : (okx != okx) = false := by cases okx <;> rfl
  have e2 : (kx.toList == kx.toList) = true := beq_self_eq_true _
  have e3 : (vx == vx) = true := beq_self_eq_true _
  go_region_held3 (fun w' => w'.cell? ⟨w.heap.size, 0, none⟩ = some (.string K) ∧ w'.cell? ⟨w.heap.size, 1, none⟩ = some (.int .i64 v) ∧ w'.cell? ⟨w1.heap.size, 0, none⟩ = some (.string kx) ∧ w'.cell? ⟨w1.heap.size, 1, none⟩ = some (.int .i64 vx) ∧ w'.cell? ⟨w2.heap.size, 0, none⟩ = some (.string kx) ∧ w'.cell? ⟨w2.heap.size, 1, none⟩ = some (.int .i64 vx)) (first | (go_keep; done) | exact ⟨a0, a1, b0, b1, c0, c1⟩)
    (first
      | (go_at_call 5; refine (rightLeaf_any K v HKS.out _).mono ?_
         rintro e w4 ⟨rfl, hb4⟩
         rw [hlo]
         replace a0 := (hb4.cell (World.block_lt_of_cell? _ _ a0)).trans a0
         replace a1 := (hb4.cell (World.block_lt_of_cell? _ _ a1)).trans a1
         replace b0 := (hb4.cell (World.block_lt_of_cell? _ _ b0)).trans b0
         replace b1 := (hb4.cell (World.block_lt_of_cell? _ _ b1)).trans b1
         replace c0 := (hb4.cell (World.block_lt_of_cell? _ _ c0)).trans c0
         replace c1 := (hb4.cell (World.block_lt_of_cell? _ _ c1)).trans c1
         replace HB := Lib.hid (after HB.out hb4)
         clear hb4)
      | (go_at_call 12; refine (rrightLeaf_any K v HKS.out _).mono ?_
         rintro e w5 ⟨rfl, hb5⟩
         rw [hlo]
         replace a0 := (hb5.cell (World.block_lt_of_cell? _ _ a0)).trans a0
         replace a1 := (hb5.cell (World.block_lt_of_cell? _ _ a1)).trans a1
         replace b0 := (hb5.cell (World.block_lt_of_cell? _ _ b0)).trans b0
         replace b1 := (hb5.cell (World.block_lt_of_cell? _ _ b1)).trans b1
         replace c0 := (hb5.cell (World.block_lt_of_cell? _ _ c0)).trans c0
         replace c1 := (hb5.cell (World.block_lt_of_cell? _ _ c1)).trans c1
         replace HB := Lib.hid (after HB.out hb5)
         clear hb5)
      | (go_at_call 13; refine (rencLeaf_nil K v HKS.out hlo _).mono ?_
         rintro e w6 ⟨rfl, hb6⟩
         replace a0 := (hb6.cell (World.block_lt_of_cell? _ _ a0)).trans a0
         replace a1 := (hb6.cell (World.block_lt_of_cell? _ _ a1)).trans a1
         replace b0 := (hb6.cell (World.block_lt_of_cell? _ _ b0)).trans b0
         replace b1 := (hb6.cell (World.block_lt_of_cell? _ _ b1)).trans b1
         replace c0 := (hb6.cell (World.block_lt_of_cell? _ _ c0)).trans c0
         replace c1 := (hb6.cell (World.block_lt_of_cell? _ _ c1)).trans c1
         replace HB := Lib.hid (after HB.out hb6)
         clear hb6)
      | (go_at_call 9; refine (same_any 0 none none 0 0 0 0 [] [] _ Reads.none_ Reads.none_ (by omega) (by omega)).mono ?_
         rintro e w7 ⟨rfl, hb7⟩
         rw [eqB_true rfl]
         replace a0 := (hb7.cell (World.block_lt_of_cell? _ _ a0)).trans a0
         replace a1 := (hb7.cell (World.block_lt_of_cell? _ _ a1)).trans a1
         replace b0 := (hb7.cell (World.block_lt_of_cell? _ _ b0)).trans b0
         replace b1 := (hb7.cell (World.block_lt_of_cell? _ _ b1)).trans b1
         replace c0 := (hb7.cell (World.block_lt_of_cell? _ _ c0)).trans c0
         replace c1 := (hb7.cell (World.block_lt_of_cell? _ _ c1)).trans c1
         replace HB := Lib.hid (after HB.out hb7)
         clear hb7))
  clear b0 b1 c0 c1 e2 e3 e4
  go_wp2_with (first
      | (go_at_call 5; refine (rightLeaf_any K v HKS.out _).mono ?_
         rintro e w8 ⟨rfl, hb8⟩
         rw [hlo]
         replace a0 := (hb8.cell (World.block_lt_of_cell? _ _ a0)).trans a0
         replace a1 := (hb8.cell (World.block_lt_of_cell? _ _ a1)).trans a1
         replace HB := Lib.hid (after HB.out hb8)
         clear hb8)
      | (go_at_call 6; refine (runs_any _).mono ?_
         rintro e w10 ⟨rfl, hb10⟩
         replace HB := Lib.hid (after HB.out hb10)
         clear hb10)
      | fail)
  go_ret
  exact ⟨rfl, HB.out⟩
set_option maxRecDepth 100000 in
set_option maxHeartbeats 6400000 in
theorem leaves_st (k : ByteArray) (v : Int) (xs : List Int) (own : Bool) (h9 : k.size ≤ 9223372036854775807) (hk : ¬ 40 < (k.size : Int)) (hx : xs.length = 8) (h64 : W64 xs) (K : ByteArray) (hK : K = k) (hlo : leafOk K v = true) (w : World) : Calls Try.prog 4 #[.agg #[.string k, .int .i64 v], .agg (u64s xs).toArray, .bool own] w fun e w' => e = .returned (.bool true) ∧ Below w.heap.size w w' := by
  have HX := Lib.hid hx
  have H64 := Lib.hid h64
  have HKS : Hid (K.size ≤ 9223372036854775807) := Lib.hid (by rw [hK]; exact h9)
  have HK := Lib.hid hK
  have e1 : (w.alloc (.cells #[.string K, .int .i64 v] 23)).heap.size = w.heap.size + 1 := by simp
  obtain ⟨w0, hw0⟩ : ∃ w0, w0 = (w.alloc (.cells #[.string K, .int .i64 v] 23)).alloc (.cells (u64s xs).toArray 37) := ⟨_, rfl⟩
  have HW0 := Lib.hid hw0
  have HR : Hid (Reads w0 w0.heap.size 1 (some ⟨w.heap.size + 1, 0, none⟩) 8 (u64s xs)) := Lib.hid (by
    have b : Blk w0 (w.heap.size + 1) 37 (u64s xs).toArray := by rw [hw0, ← e1]; exact Blk.new _ 37 _
    have := b.reads
    rw [show (u64s xs).length = 8 by simp [u64s, hx]] at this
    exact this)
  have a0 : w0.cell? ⟨w.heap.size, 0, none⟩ = some (.string K) := by rw [hw0]; exact (World.cell?_alloc_lt _ _ _ (by simp)).trans (box2 w K v).1
  have a1 : w0.cell? ⟨w.heap.size, 1, none⟩ = some (.int .i64 v) := by rw [hw0]; exact (World.cell?_alloc_lt _ _ _ (by simp)).trans (box2 w K v).2
  have HB : Hid (Below w.heap.size w w0) := Lib.hid (by rw [hw0]; exact ((Below.refl w.heap.size w).alloc (Nat.le_refl _) _).alloc (by simp) _)
  clear hx h64 h9 hw0 hK e1
  go_enter Try.func4, Try.ntmps4
  go_wp2_with fail
  try rw [← HK.out]
  rw [← HW0.out]
  have F1 : Hid True := Lib.hid trivial
  go_wp2_with (first
    | (go_at_call 10; clear F1; refine (decLeaf_any _ xs _ HR.out H64.out).mono ?_
       rintro e w1 ⟨kx, vx, okx, rfl, hd, hb1⟩
       have HD := Lib.hid hd
       replace a0 := (hb1.cell (World.block_lt_of_cell? _ _ a0)).trans a0
       replace a1 := (hb1.cell (World.block_lt_of_cell? _ _ a1)).trans a1
       replace HR := Lib.hid (HR.out.on hb1)
       replace HB := Lib.hid (after HB.out hb1)
       have b0 := (box2 w1 kx vx).1
       have b1 := (box2 w1 kx vx).2
       clear hd hb1)
    | (go_at_call 11; refine (rdec_any _ xs _ (HR.out.on (below_al w1 _)) H64.out).mono ?_
       rintro e w2 ⟨ky, vy, oky, rfl, hd, hb2⟩
       obtain ⟨e1, e2, e3⟩ := HD.out.uniq hd
       subst e1 e2 e3
       have hbb := after (below_al w1 (.cells #[.string kx, .int .i64 vx] 23)) hb2
       replace a0 := (hbb.cell (World.block_lt_of_cell? _ _ a0)).trans a0
       replace a1 := (hbb.cell (World.block_lt_of_cell? _ _ a1)).trans a1
       replace b0 := (hb2.cell (World.block_lt_of_cell? _ _ b0)).trans b0
       replace b1 := (hb2.cell (World.block_lt_of_cell? _ _ b1)).trans b1
       replace HB := Lib.hid (after HB.out hbb)
       have l0 : w.heap.size < w2.heap.size := World.block_lt_of_cell? _ _ a0
       have c0 := (box2 w2 kx vx).1
       have c1 := (box2 w2 kx vx).2
       clear hd hb2 hbb)
    | (go_at_call 7; refine (encLeaf_any K v HKS.out hlo _).mono ?_
       rintro e w3 ⟨ga, rfl, hr3, hb3⟩
       have hbb := after (below_al w2 (.cells #[.string kx, .int .i64 vx] 23)) hb3
       replace a0 := (hbb.cell (World.block_lt_of_cell? _ _ a0)).trans a0
       replace a1 := (hbb.cell (World.block_lt_of_cell? _ _ a1)).trans a1
       replace b0 := (hbb.cell (World.block_lt_of_cell? _ _ b0)).trans b0
       replace b1 := (hbb.cell (World.block_lt_of_cell? _ _ b1)).trans b1
       replace c0 := (hb3.cell (World.block_lt_of_cell? _ _ c0)).trans c0
       replace c1 := (hb3.cell (World.block_lt_of_cell? _ _ c1)).trans c1
       replace HB := Lib.hid (after HB.out hbb)
       have HE := Lib.hid hr3
       clear hr3
       clear hb3 hbb)
    | fail)
  replace a0 : w3.drew.cell? ⟨w.heap.size, 0, none⟩ = some (.string K) := a0
  replace a1 : w3.drew.cell? ⟨w.heap.size, 1, none⟩ = some (.int .i64 v) := a1
  replace b0 : w3.drew.cell? ⟨w1.heap.size, 0, none⟩ = some (.string kx) := b0
  replace b1 : w3.drew.cell? ⟨w1.heap.size, 1, none⟩ = some (.int .i64 vx) := b1
  replace c0 : w3.drew.cell? ⟨w2.heap.size, 0, none⟩ = some (.string kx) := c0
  replace c1 : w3.drew.cell? ⟨w2.heap.size, 1, none⟩ = some (.int .i64 vx) := c1
  replace HB := Lib.hid HB.out.drew
  replace HE := Lib.hid HE.out.drew
  have e4 : (okx != okx) = false := by cases okx <;> rfl
  have e2 : (kx.toList == kx.toList) = true := beq_self_eq_true _
  have e3 : (vx == vx) = true := beq_self_eq_true _
  go_region_held3 (fun w' => w'.cell? ⟨w.heap.size, 0, none⟩ = some (.string K) ∧ w'.cell? ⟨w.heap.size, 1, none⟩ = some (.int .i64 v) ∧ w'.cell? ⟨w1.heap.size, 0, none⟩ = some (.string kx) ∧ w'.cell? ⟨w1.heap.size, 1, none⟩ = some (.int .i64 vx) ∧ w'.cell? ⟨w2.heap.size, 0, none⟩ = some (.string kx) ∧ w'.cell? ⟨w2.heap.size, 1, none⟩ = some (.int .i64 vx)) (first | (go_keep; done) | exact ⟨a0, a1, b0, b1, c0, c1⟩)
    (first
      | (go_at_call 5; refine (rightLeaf_any K v HKS.out _).mono ?_
         rintro e w4 ⟨rfl, hb4⟩
         rw [hlo]
         replace a0 := (hb4.cell (World.block_lt_of_cell? _ _ a0)).trans a0
         replace a1 := (hb4.cell (World.block_lt_of_cell? _ _ a1)).trans a1
         replace b0 := (hb4.cell (World.block_lt_of_cell? _ _ b0)).trans b0
         replace b1 := (hb4.cell (World.block_lt_of_cell? _ _ b1)).trans b1
         replace c0 := (hb4.cell (World.block_lt_of_cell? _ _ c0)).trans c0
         replace c1 := (hb4.cell (World.block_lt_of_cell? _ _ c1)).trans c1
         replace HB := Lib.hid (after HB.out hb4)
         replace HE := Lib.hid (HE.out.on hb4)
         clear hb4)
      | (go_at_call 12; refine (rrightLeaf_any K v HKS.out _).mono ?_
         rintro e w5 ⟨rfl, hb5⟩
         rw [hlo]
         replace a0 := (hb5.cell (World.block_lt_of_cell? _ _ a0)).trans a0
         replace a1 := (hb5.cell (World.block_lt_of_cell? _ _ a1)).trans a1
         replace b0 := (hb5.cell (World.block_lt_of_cell? _ _ b0)).trans b0
         replace b1 := (hb5.cell (World.block_lt_of_cell? _ _ b1)).trans b1
         replace c0 := (hb5.cell (World.block_lt_of_cell? _ _ c0)).trans c0
         replace c1 := (hb5.cell (World.block_lt_of_cell? _ _ c1)).trans c1
         replace HB := Lib.hid (after HB.out hb5)
         replace HE := Lib.hid (HE.out.on hb5)
         clear hb5)
      | (go_at_call 13; refine (rencLeaf_any K v HKS.out hlo _).mono ?_
         rintro e w6 ⟨gb, rfl, hr6, hb6⟩
         have HG := Lib.hid hr6
         clear hr6
         replace a0 := (hb6.cell (World.block_lt_of_cell? _ _ a0)).trans a0
         replace a1 := (hb6.cell (World.block_lt_of_cell? _ _ a1)).trans a1
         replace b0 := (hb6.cell (World.block_lt_of_cell? _ _ b0)).trans b0
         replace b1 := (hb6.cell (World.block_lt_of_cell? _ _ b1)).trans b1
         replace c0 := (hb6.cell (World.block_lt_of_cell? _ _ c0)).trans c0
         replace c1 := (hb6.cell (World.block_lt_of_cell? _ _ c1)).trans c1
         replace HB := Lib.hid (after HB.out hb6)
         replace HE := Lib.hid (HE.out.on hb6)
         clear hb6)
      | (go_at_call 9; refine (same_any _ _ _ _ _ _ _ (leafW K v) (leafW K v) _ HE.out HG.out (by omega) (by omega)).mono ?_
         rintro e w7 ⟨rfl, hb7⟩
         rw [eqB_true rfl]
         replace a0 := (hb7.cell (World.block_lt_of_cell? _ _ a0)).trans a0
         replace a1 := (hb7.cell (World.block_lt_of_cell? _ _ a1)).trans a1
         replace b0 := (hb7.cell (World.block_lt_of_cell? _ _ b0)).trans b0
         replace b1 := (hb7.cell (World.block_lt_of_cell? _ _ b1)).trans b1
         replace c0 := (hb7.cell (World.block_lt_of_cell? _ _ c0)).trans c0
         replace c1 := (hb7.cell (World.block_lt_of_cell? _ _ c1)).trans c1
         replace HB := Lib.hid (after HB.out hb7)
         replace HE := Lib.hid (HE.out.on hb7)
         clear hb7))
  have HDL : Hid (DL (leafW K v) K v true) := Lib.hid ⟨fun _ => ⟨hlo, rfl⟩, (fun e => by cases e)⟩
  have H6 := Lib.hid (leafW_64 hlo)
  have e5 : (K.toList == K.toList) = true := beq_self_eq_true _
  have e6 : (v == v) = true := beq_self_eq_true _
  clear b0 b1 c0 c1 e2 e3 e4
  go_wp2_with (first
      | (go_at_call 5; refine (rightLeaf_any K v HKS.out _).mono ?_
         rintro e w8 ⟨rfl, hb8⟩
         rw [hlo]
         replace a0 := (hb8.cell (World.block_lt_of_cell? _ _ a0)).trans a0
         replace a1 := (hb8.cell (World.block_lt_of_cell? _ _ a1)).trans a1
         replace HB := Lib.hid (after HB.out hb8)
         replace HE := Lib.hid (HE.out.on hb8)
         clear hb8)
      | (go_at_call 10; refine (decLeaf_any _ (leafW K v) _ HE.out H6.out).mono ?_
         rintro e w9 ⟨kz, vz, okz, rfl, hd, hb9⟩
         obtain ⟨e1, e2, e3⟩ := HDL.out.uniq hd
         subst e1 e2 e3
         replace a0 := (hb9.cell (World.block_lt_of_cell? _ _ a0)).trans a0
         replace a1 := (hb9.cell (World.block_lt_of_cell? _ _ a1)).trans a1
         replace HB := Lib.hid (after HB.out hb9)
         have d0 := (box2 w9 K v).1
         have d1 := (box2 w9 K v).2
         have l9 : w.heap.size < w9.heap.size := World.block_lt_of_cell? _ _ a0
         clear hd hb9)
      | (go_at_call 6; refine (runs_any _).mono ?_
         rintro e w10 ⟨rfl, hb10⟩
         replace HB := Lib.hid (after HB.out (after (below_al w9 (.cells #[.string K, .int .i64 v] 23)) hb10))
         clear hb10)
      | fail)
  go_ret
  exact ⟨rfl, HB.out⟩
set_option maxRecDepth 100000 in
set_option maxHeartbeats 6400000 in
theorem leaves_sf (k : ByteArray) (v : Int) (xs : List Int) (own : Bool) (h9 : k.size ≤ 9223372036854775807) (hk : ¬ 40 < (k.size : Int)) (hx : xs.length = 8) (h64 : W64 xs) (K : ByteArray) (hK : K = k) (hlo : leafOk K v = false) (w : World) : Calls Try.prog 4 #[.agg #[.string k, .int .i64 v], .agg (u64s xs).toArray, .bool own] w fun e w' => e = .returned (.bool true) ∧ Below w.heap.size w w' := by
  have HX := Lib.hid hx
  have H64 := Lib.hid h64
  have HKS : Hid (K.size ≤ 9223372036854775807) := Lib.hid (by rw [hK]; exact h9)
  have HK := Lib.hid hK
  have e1 : (w.alloc (.cells #[.string K, .int .i64 v] 23)).heap.size = w.heap.size + 1 := by simp
  obtain ⟨w0, hw0⟩ : ∃ w0, w0 = (w.alloc (.cells #[.string K, .int .i64 v] 23)).alloc (.cells (u64s xs).toArray 37) := ⟨_, rfl⟩
  have HW0 := Lib.hid hw0
  have HR : Hid (Reads w0 w0.heap.size 1 (some ⟨w.heap.size + 1, 0, none⟩) 8 (u64s xs)) := Lib.hid (by
    have b : Blk w0 (w.heap.size + 1) 37 (u64s xs).toArray := by rw [hw0, ← e1]; exact Blk.new _ 37 _
    have := b.reads
    rw [show (u64s xs).length = 8 by simp [u64s, hx]] at this
    exact this)
  have a0 : w0.cell? ⟨w.heap.size, 0, none⟩ = some (.string K) := by rw [hw0]; exact (World.cell?_alloc_lt _ _ _ (by simp)).trans (box2 w K v).1
  have a1 : w0.cell? ⟨w.heap.size, 1, none⟩ = some (.int .i64 v) := by rw [hw0]; exact (World.cell?_alloc_lt _ _ _ (by simp)).trans (box2 w K v).2
  have HB : Hid (Below w.heap.size w w0) := Lib.hid (by rw [hw0]; exact ((Below.refl w.heap.size w).alloc (Nat.le_refl _) _).alloc (by simp) _)
  clear hx h64 h9 hw0 hK e1
  go_enter Try.func4, Try.ntmps4
  go_wp2_with fail
  try rw [← HK.out]
  rw [← HW0.out]
  have F1 : Hid True := Lib.hid trivial
  go_wp2_with (first
    | (go_at_call 10; clear F1; refine (decLeaf_any _ xs _ HR.out H64.out).mono ?_
       rintro e w1 ⟨kx, vx, okx, rfl, hd, hb1⟩
       have HD := Lib.hid hd
       replace a0 := (hb1.cell (World.block_lt_of_cell? _ _ a0)).trans a0
       replace a1 := (hb1.cell (World.block_lt_of_cell? _ _ a1)).trans a1
       replace HR := Lib.hid (HR.out.on hb1)
       replace HB := Lib.hid (after HB.out hb1)
       have b0 := (box2 w1 kx vx).1
       have b1 := (box2 w1 kx vx).2
       clear hd hb1)
    | (go_at_call 11; refine (rdec_any _ xs _ (HR.out.on (below_al w1 _)) H64.out).mono ?_
       rintro e w2 ⟨ky, vy, oky, rfl, hd, hb2⟩
       obtain ⟨e1, e2, e3⟩ := HD.out.uniq hd
       subst e1 e2 e3
       have hbb := after (below_al w1 (.cells #[.string kx, .int .i64 vx] 23)) hb2
       replace a0 := (hbb.cell (World.block_lt_of_cell? _ _ a0)).trans a0
       replace a1 := (hbb.cell (World.block_lt_of_cell? _ _ a1)).trans a1
       replace b0 := (hb2.cell (World.block_lt_of_cell? _ _ b0)).trans b0
       replace b1 := (hb2.cell (World.block_lt_of_cell? _ _ b1)).trans b1
       replace HB := Lib.hid (after HB.out hbb)
       have l0 : w.heap.size < w2.heap.size := World.block_lt_of_cell? _ _ a0
       have c0 := (box2 w2 kx vx).1
       have c1 := (box2 w2 kx vx).2
       clear hd hb2 hbb)
    | (go_at_call 7; refine (encLeaf_nil K v HKS.out hlo _).mono ?_
       rintro e w3 ⟨rfl, hb3⟩
       have hbb := after (below_al w2 (.cells #[.string kx, .int .i64 vx] 23)) hb3
       replace a0 := (hbb.cell (World.block_lt_of_cell? _ _ a0)).trans a0
       replace a1 := (hbb.cell (World.block_lt_of_cell? _ _ a1)).trans a1
       replace b0 := (hbb.cell (World.block_lt_of_cell? _ _ b0)).trans b0
       replace b1 := (hbb.cell (World.block_lt_of_cell? _ _ b1)).trans b1
       replace c0 := (hb3.cell (World.block_lt_of_cell? _ _ c0)).trans c0
       replace c1 := (hb3.cell (World.block_lt_of_cell? _ _ c1)).trans c1
       replace HB := Lib.hid (after HB.out hbb)
       clear hb3 hbb)
    | fail)
  replace a0 : w3.drew.cell? ⟨w.heap.size, 0, none⟩ = some (.string K) := a0
  replace a1 : w3.drew.cell? ⟨w.heap.size, 1, none⟩ = some (.int .i64 v) := a1
  replace b0 : w3.drew.cell? ⟨w1.heap.size, 0, none⟩ = some (.string kx) := b0
  replace b1 : w3.drew.cell? ⟨w1.heap.size, 1, none⟩ = some (.int .i64 vx) := b1
  replace c0 : w3.drew.cell? ⟨w2.heap.size, 0, none⟩ = some (.string kx) := c0
  replace c1 : w3.drew.cell? ⟨w2.heap.size, 1, none⟩ = some (.int .i64 vx) := c1
  replace HB := Lib.hid HB.out.drew
  have e4 : (okx != okx) = false := by cases okx <;> rfl
  have e2 : (kx.toList == kx.toList) = true := beq_self_eq_true _
  have e3 : (vx == vx) = true := beq_self_eq_true _
  go_region_held3 (fun w' => w'.cell? ⟨w.heap.size, 0, none⟩ = some (.string K) ∧ w'.cell? ⟨w.heap.size, 1, none⟩ = some (.int .i64 v) ∧ w'.cell? ⟨w1.heap.size, 0, none⟩ = some (.string kx) ∧ w'.cell? ⟨w1.heap.size, 1, none⟩ = some (.int .i64 vx) ∧ w'.cell? ⟨w2.heap.size, 0, none⟩ = some (.string kx) ∧ w'.cell? ⟨w2.heap.size, 1, none⟩ = some (.int .i64 vx)) (first | (go_keep; done) | exact ⟨a0, a1, b0, b1, c0, c1⟩)
    (first
      | (go_at_call 5; refine (rightLeaf_any K v HKS.out _).mono ?_
         rintro e w4 ⟨rfl, hb4⟩
         rw [hlo]
         replace a0 := (hb4.cell (World.block_lt_of_cell? _ _ a0)).trans a0
         replace a1 := (hb4.cell (World.block_lt_of_cell? _ _ a1)).trans a1
         replace b0 := (hb4.cell (World.block_lt_of_cell? _ _ b0)).trans b0
         replace b1 := (hb4.cell (World.block_lt_of_cell? _ _ b1)).trans b1
         replace c0 := (hb4.cell (World.block_lt_of_cell? _ _ c0)).trans c0
         replace c1 := (hb4.cell (World.block_lt_of_cell? _ _ c1)).trans c1
         replace HB := Lib.hid (after HB.out hb4)
         clear hb4)
      | (go_at_call 12; refine (rrightLeaf_any K v HKS.out _).mono ?_
         rintro e w5 ⟨rfl, hb5⟩
         rw [hlo]
         replace a0 := (hb5.cell (World.block_lt_of_cell? _ _ a0)).trans a0
         replace a1 := (hb5.cell (World.block_lt_of_cell? _ _ a1)).trans a1
         replace b0 := (hb5.cell (World.block_lt_of_cell? _ _ b0)).trans b0
         replace b1 := (hb5.cell (World.block_lt_of_cell? _ _ b1)).trans b1
         replace c0 := (hb5.cell (World.block_lt_of_cell? _ _ c0)).trans c0
         replace c1 := (hb5.cell (World.block_lt_of_cell? _ _ c1)).trans c1
         replace HB := Lib.hid (after HB.out hb5)
         clear hb5)
      | (go_at_call 13; refine (rencLeaf_nil K v HKS.out hlo _).mono ?_
         rintro e w6 ⟨rfl, hb6⟩
         replace a0 := (hb6.cell (World.block_lt_of_cell? _ _ a0)).trans a0
         replace a1 := (hb6.cell (World.block_lt_of_cell? _ _ a1)).trans a1
         replace b0 := (hb6.cell (World.block_lt_of_cell? _ _ b0)).trans b0
         replace b1 := (hb6.cell (World.block_lt_of_cell? _ _ b1)).trans b1
         replace c0 := (hb6.cell (World.block_lt_of_cell? _ _ c0)).trans c0
         replace c1 := (hb6.cell (World.block_lt_of_cell? _ _ c1)).trans c1
         replace HB := Lib.hid (after HB.out hb6)
         clear hb6)
      | (go_at_call 9; refine (same_any 0 none none 0 0 0 0 [] [] _ Reads.none_ Reads.none_ (by omega) (by omega)).mono ?_
         rintro e w7 ⟨rfl, hb7⟩
         rw [eqB_true rfl]
         replace a0 := (hb7.cell (World.block_lt_of_cell? _ _ a0)).trans a0
         replace a1 := (hb7.cell (World.block_lt_of_cell? _ _ a1)).trans a1
         replace b0 := (hb7.cell (World.block_lt_of_cell? _ _ b0)).trans b0
         replace b1 := (hb7.cell (World.block_lt_of_cell? _ _ b1)).trans b1
         replace c0 := (hb7.cell (World.block_lt_of_cell? _ _ c0)).trans c0
         replace c1 := (hb7.cell (World.block_lt_of_cell? _ _ c1)).trans c1
         replace HB := Lib.hid (after HB.out hb7)
         clear hb7))
  clear b0 b1 c0 c1 e2 e3 e4
  go_wp2_with (first
      | (go_at_call 5; refine (rightLeaf_any K v HKS.out _).mono ?_
         rintro e w8 ⟨rfl, hb8⟩
         rw [hlo]
         replace a0 := (hb8.cell (World.block_lt_of_cell? _ _ a0)).trans a0
         replace a1 := (hb8.cell (World.block_lt_of_cell? _ _ a1)).trans a1
         replace HB := Lib.hid (after HB.out hb8)
         clear hb8)
      | (go_at_call 6; refine (runs_any _).mono ?_
         rintro e w10 ⟨rfl, hb10⟩
         replace HB := Lib.hid (after HB.out hb10)
         clear hb10)
      | fail)
  go_ret
  exact ⟨rfl, HB.out⟩
theorem leaves_any (k : ByteArray) (v : Int) (xs : List Int) (own : Bool) (h9 : k.size ≤ 9223372036854775807) (hx : xs.length = 8) (h64 : W64 xs) (w : World) : Calls Try.prog 4 #[.agg #[.string k, .int .i64 v], .agg (u64s xs).toArray, .bool own] w fun e w' => e = .returned (.bool true) ∧ Below w.heap.size w w' := by
  by_cases hk : 40 < (k.size : Int)
  · cases hlo : leafOk (k.extract 0 40) v with
    | true => exact leaves_bt k v xs own h9 hk hx h64 _ rfl hlo w
    | false => exact leaves_bf k v xs own h9 hk hx h64 _ rfl hlo w
  · cases hlo : leafOk k v with
    | true => exact leaves_st k v xs own h9 hk hx h64 _ rfl hlo w
    | false => exact leaves_sf k v xs own h9 hk hx h64 _ rfl hlo w
end Go.Proofs.Ytkobgejeapcfkaa
