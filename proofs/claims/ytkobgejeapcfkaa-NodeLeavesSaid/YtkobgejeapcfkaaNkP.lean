/-
  The document's DecodeLeaf, past its first tests, and whole; condition: sizes.
-/
import Derived.Test.YtkobgejeapcfkaaNkO
namespace Go.Proofs.Ytkobgejeapcfkaa
open Go.RowKit Go.WideShapes Go.ChangeShapes
set_option linter.all false
theorem shr8 {x : Nat} (h : x < 65536) : IntKind.i64.wrap ((x : Int) / 256) = ((x / 256 : Nat) : Int) := by
  have : (x : Int) / 256 = ((x / 256 : Nat) : Int) := by omega
  rw [this]; exact IntWalk.i64_in _ (by omega)
theorem z0' (w : World) : (w.alloc (.cells #[.string ⟨#[]⟩, .int .i64 0] 23)).cell? ⟨w.heap.size, 0, none⟩ = some (.string ⟨#[]⟩) := cell_of_row _ _ 0 #[.string ⟨#[]⟩, .int .i64 0] 23 (0, 0) (heap_alloc_new w _)
theorem z1' (w : World) : (w.alloc (.cells #[.string ⟨#[]⟩, .int .i64 0] 23)).cell? ⟨w.heap.size, 1, none⟩ = some (.int .i64 0) := cell_of_row _ _ 1 #[.string ⟨#[]⟩, .int .i64 0] 23 (0, 0) (heap_alloc_new w _)
theorem zf' (w : World) : ∀ i, (w.alloc (.cells #[.string ⟨#[]⟩, .int .i64 0] 23)).frozen? ⟨w.heap.size, i, none⟩ = false := fun i => (Blk.new w 23 #[.string ⟨#[]⟩, .int .i64 0]).frozen i
theorem rbytes_bad' (A : Option Addr) (m : Nat) (hm : 16 < m) (w : World) : Calls Try.prog 26 #[.slice A 2 6, .int .i64 m] w fun e w' => e = .returned (.tuple #[.string ⟨#[]⟩, .int .i64 1]) ∧ Below w.heap.size w w' :=
  (rbytes_bad A 2 6 (m : Int) w (by omega) (by omega)).mono (fun e w' h => ⟨h.1, h.2 ▸ Below.refl _ _⟩)
theorem rbytes_rest (A : Option Addr) (m : Nat) (hm : m ≤ 16) (ys : List Int) (w : World) (hx : Reads w w.heap.size 1 A 2 (u64s ys)) (hr : restB ys m = false) : Calls Try.prog 26 #[.slice A 2 6, .int .i64 m] w fun e w' => e = .returned (.tuple #[.string ⟨#[]⟩, .int .i64 5]) ∧ Below w.heap.size w w' :=
  (rbytes_any A 2 6 m ys w hx (by omega) (by omega)).mono (fun e w' h => ⟨by rw [h.1, hr]; rfl, h.2⟩)
theorem rbytes_yes (A : Option Addr) (m : Nat) (hm : m ≤ 16) (ys : List Int) (w : World) (hx : Reads w w.heap.size 1 A 2 (u64s ys)) (hr : restB ys m = true) : Calls Try.prog 26 #[.slice A 2 6, .int .i64 m] w fun e w' => e = .returned (.tuple #[.string (strOfNums (bt ys m m)), .int .i64 0]) ∧ Below w.heap.size w w' :=
  (rbytes_any A 2 6 m ys w hx (by omega) (by omega)).mono (fun e w' h => ⟨by rw [h.1, hr]; rfl, h.2⟩)
/-- What is asked of the words ahead of the text's reading. -/
structure Pass (x0 x1 x4 x5 x6 x7 : Nat) : Prop where
  m0 : (((x0 : Nat) : Int) != 0) = false
  m1 : (bits .andNot .u64 (x1 : Int) 65280 != 0) = false
  m4 : decide ((1099511627776 : Int) < (x4 : Int)) = false
  m5 : (bits .or .u64 (bits .or .u64 (x5 : Int) (x6 : Int)) (x7 : Int) != 0) = false
set_option maxRecDepth 100000 in
set_option maxHeartbeats 3200000 in
theorem rdec_A (g : Nat) (xs : List Int) (x0 x1 x4 x5 x6 x7 m : Nat) (w : World) (hR : Reads w w.heap.size 1 (some ⟨g, 0, none⟩) 8 (u64s xs)) (k0 : w.cell? ⟨g, 0, none⟩ = some (.int .u64 (x0 : Int))) (k1 : w.cell? ⟨g, 1, none⟩ = some (.int .u64 (x1 : Int))) (k4 : w.cell? ⟨g, 4, none⟩ = some (.int .u64 (x4 : Int))) (k5 : w.cell? ⟨g, 5, none⟩ = some (.int .u64 (x5 : Int))) (k6 : w.cell? ⟨g, 6, none⟩ = some (.int .u64 (x6 : Int))) (k7 : w.cell? ⟨g, 7, none⟩ = some (.int .u64 (x7 : Int)))
    (P : Pass x0 x1 x4 x5 x6 x7) (h1 : IntKind.i64.wrap ((x1 : Int) / 256) = (m : Int)) (h4 : IntKind.i64.wrap (x4 : Int) = (x4 : Int))
    (h16 : 16 < m) (HD : Hid (DL xs ⟨#[]⟩ 0 false)) : Calls Try.prog 11 #[.slice (some ⟨g, 0, none⟩) 8 8] w (DecPost xs w) := by
  have HR := Lib.hid hR
  clear hR
  obtain ⟨m0, m1, m4, m5⟩ := P
  have al : ∀ j x, w.cell? ⟨g, j, none⟩ = some (.int .u64 x) → (w.alloc (.cells #[.string ⟨#[]⟩, .int .i64 0] 23)).cell? ⟨g, j, none⟩ = some (.int .u64 x) := fun j x h => (World.cell?_alloc_lt _ _ _ (World.block_lt_of_cell? _ _ h)).trans h
  have HK1 := Lib.hid k1
  have HK4 := Lib.hid k4
  replace k0 := al _ _ k0
  replace k1 := al _ _ k1
  replace k4 := al _ _ k4
  replace k5 := al _ _ k5
  replace k6 := al _ _ k6
  replace k7 := al _ _ k7
  clear al
  go_enter Try.func11, Try.ntmps11
  go_wp2
  go_quiet ((go_at_call 25; exact Calls.quiet_of_same (rsize0_any _)))
  clear m0 m1 m4 m5 k0 k4 k5 k6 k7
  go_wp2_with fail
  replace k1 : ((w.alloc (.cells #[.string ⟨#[]⟩, .int .i64 0] 23)).drewN nq).drew.cell? ⟨g, 1, none⟩ = some (.int .u64 (x1 : Int)) := k1
  go_region_held3 (fun w' => w'.cell? ⟨g, 1, none⟩ = some (.int .u64 (x1 : Int))) (first | (go_keep; done) | exact r1 | exact k1)
    (first
      | (go_at_call 26; refine (rbytes_bad' _ m h16 _).mono ?_
         rintro e w2 ⟨rfl, hb2⟩
         have HB2 : Hid (Below w.heap.size w w2) := Lib.hid (after (((below_al w _).trans (below_drewN' _ nq)).drew) hb2)
         have r1 : w2.cell? ⟨g, 1, none⟩ = some (.int .u64 (x1 : Int)) := (HB2.out.cell (World.block_lt_of_cell? _ _ HK1.out)).trans HK1.out
         have r4 : w2.cell? ⟨g, 4, none⟩ = some (.int .u64 (x4 : Int)) := (HB2.out.cell (World.block_lt_of_cell? _ _ HK4.out)).trans HK4.out
         have c0 : w2.cell? ⟨w.heap.size, 0, none⟩ = some (.string ⟨#[]⟩) := (hb2.cell (by simp)).trans (z0' w)
         have c1 : w2.cell? ⟨w.heap.size, 1, none⟩ = some (.int .i64 0) := (hb2.cell (by simp)).trans (z1' w)
         have f0 : w2.frozen? ⟨w.heap.size, 0, none⟩ = false := (hb2.frozen (by simp)).trans (zf' w 0)
         have f1 : w2.frozen? ⟨w.heap.size, 1, none⟩ = false := (hb2.frozen (by simp)).trans (zf' w 1)
         clear hb2))
  have hlt : w.heap.size < w2.heap.size := World.block_lt_of_cell? _ _ c0
  go_wp2
  exact bodyPost_ret (v := .tuple #[.agg #[.string ⟨#[]⟩, .int .i64 0], .bool false]) (by simp [results, Try.results11, go_sem, World.cell?_alloc_lt, hlt, c0, c1]) rfl ⟨_, _, _, rfl, HD.out, after ((HB2.out.setCell (Nat.le_refl _) _).setCell (Nat.le_refl _) _) (below_al _ _)⟩
set_option maxRecDepth 100000 in
set_option maxHeartbeats 3200000 in
theorem rdec_B (g : Nat) (xs : List Int) (x0 x1 x4 x5 x6 x7 m : Nat) (w : World) (hR : Reads w w.heap.size 1 (some ⟨g, 0, none⟩) 8 (u64s xs)) (k0 : w.cell? ⟨g, 0, none⟩ = some (.int .u64 (x0 : Int))) (k1 : w.cell? ⟨g, 1, none⟩ = some (.int .u64 (x1 : Int))) (k4 : w.cell? ⟨g, 4, none⟩ = some (.int .u64 (x4 : Int))) (k5 : w.cell? ⟨g, 5, none⟩ = some (.int .u64 (x5 : Int))) (k6 : w.cell? ⟨g, 6, none⟩ = some (.int .u64 (x6 : Int))) (k7 : w.cell? ⟨g, 7, none⟩ = some (.int .u64 (x7 : Int)))
    (P : Pass x0 x1 x4 x5 x6 x7) (h1 : IntKind.i64.wrap ((x1 : Int) / 256) = (m : Int)) (h4 : IntKind.i64.wrap (x4 : Int) = (x4 : Int))
    (h16 : m ≤ 16) (hr : restB ((xs.drop 2).take 2) m = false) (HD : Hid (DL xs ⟨#[]⟩ 0 false)) : Calls Try.prog 11 #[.slice (some ⟨g, 0, none⟩) 8 8] w (DecPost xs w) := by
  have HR := Lib.hid hR
  clear hR
  obtain ⟨m0, m1, m4, m5⟩ := P
  have al : ∀ j x, w.cell? ⟨g, j, none⟩ = some (.int .u64 x) → (w.alloc (.cells #[.string ⟨#[]⟩, .int .i64 0] 23)).cell? ⟨g, j, none⟩ = some (.int .u64 x) := fun j x h => (World.cell?_alloc_lt _ _ _ (World.block_lt_of_cell? _ _ h)).trans h
  have HK1 := Lib.hid k1
  have HK4 := Lib.hid k4
  replace k0 := al _ _ k0
  replace k1 := al _ _ k1
  replace k4 := al _ _ k4
  replace k5 := al _ _ k5
  replace k6 := al _ _ k6
  replace k7 := al _ _ k7
  clear al
  go_enter Try.func11, Try.ntmps11
  go_wp2
  go_quiet ((go_at_call 25; exact Calls.quiet_of_same (rsize0_any _)))
  clear m0 m1 m4 m5 k0 k4 k5 k6 k7
  go_wp2_with fail
  replace k1 : ((w.alloc (.cells #[.string ⟨#[]⟩, .int .i64 0] 23)).drewN nq).drew.cell? ⟨g, 1, none⟩ = some (.int .u64 (x1 : Int)) := k1
  go_region_held3 (fun w' => w'.cell? ⟨g, 1, none⟩ = some (.int .u64 (x1 : Int))) (first | (go_keep; done) | exact r1 | exact k1)
    (first
      | (go_at_call 26; refine (rbytes_rest _ m h16 _ _ ((reads_mid (HR.out.on (((below_al w _).trans (below_drewN' _ nq)).drew)))) hr).mono ?_
         rintro e w2 ⟨rfl, hb2⟩
         have HB2 : Hid (Below w.heap.size w w2) := Lib.hid (after (((below_al w _).trans (below_drewN' _ nq)).drew) hb2)
         have r1 : w2.cell? ⟨g, 1, none⟩ = some (.int .u64 (x1 : Int)) := (HB2.out.cell (World.block_lt_of_cell? _ _ HK1.out)).trans HK1.out
         have r4 : w2.cell? ⟨g, 4, none⟩ = some (.int .u64 (x4 : Int)) := (HB2.out.cell (World.block_lt_of_cell? _ _ HK4.out)).trans HK4.out
         have c0 : w2.cell? ⟨w.heap.size, 0, none⟩ = some (.string ⟨#[]⟩) := (hb2.cell (by simp)).trans (z0' w)
         have c1 : w2.cell? ⟨w.heap.size, 1, none⟩ = some (.int .i64 0) := (hb2.cell (by simp)).trans (z1' w)
         have f0 : w2.frozen? ⟨w.heap.size, 0, none⟩ = false := (hb2.frozen (by simp)).trans (zf' w 0)
         have f1 : w2.frozen? ⟨w.heap.size, 1, none⟩ = false := (hb2.frozen (by simp)).trans (zf' w 1)
         clear hb2))
  have hlt : w.heap.size < w2.heap.size := World.block_lt_of_cell? _ _ c0
  go_wp2
  exact bodyPost_ret (v := .tuple #[.agg #[.string ⟨#[]⟩, .int .i64 0], .bool false]) (by simp [results, Try.results11, go_sem, World.cell?_alloc_lt, hlt, c0, c1]) rfl ⟨_, _, _, rfl, HD.out, after ((HB2.out.setCell (Nat.le_refl _) _).setCell (Nat.le_refl _) _) (below_al _ _)⟩
set_option maxRecDepth 100000 in
set_option maxHeartbeats 3200000 in
theorem rdec_C (g : Nat) (xs : List Int) (x0 x1 x4 x5 x6 x7 m : Nat) (w : World) (hR : Reads w w.heap.size 1 (some ⟨g, 0, none⟩) 8 (u64s xs)) (k0 : w.cell? ⟨g, 0, none⟩ = some (.int .u64 (x0 : Int))) (k1 : w.cell? ⟨g, 1, none⟩ = some (.int .u64 (x1 : Int))) (k4 : w.cell? ⟨g, 4, none⟩ = some (.int .u64 (x4 : Int))) (k5 : w.cell? ⟨g, 5, none⟩ = some (.int .u64 (x5 : Int))) (k6 : w.cell? ⟨g, 6, none⟩ = some (.int .u64 (x6 : Int))) (k7 : w.cell? ⟨g, 7, none⟩ = some (.int .u64 (x7 : Int)))
    (P : Pass x0 x1 x4 x5 x6 x7) (h1 : IntKind.i64.wrap ((x1 : Int) / 256) = (m : Int)) (h4 : IntKind.i64.wrap (x4 : Int) = (x4 : Int))
    (h16 : m ≤ 16) (hr : restB ((xs.drop 2).take 2) m = true) (K : ByteArray) (HK : Hid (strOfNums (bt ((xs.drop 2).take 2) m m) = K)) (HKS : Hid (K.size ≤ 9223372036854775807)) (hlo : leafOk K (x4 : Int) = false) (HD : Hid (DL xs ⟨#[]⟩ 0 false)) : Calls Try.prog 11 #[.slice (some ⟨g, 0, none⟩) 8 8] w (DecPost xs w) := by
  have HR := Lib.hid hR
  clear hR
  obtain ⟨m0, m1, m4, m5⟩ := P
  have al : ∀ j x, w.cell? ⟨g, j, none⟩ = some (.int .u64 x) → (w.alloc (.cells #[.string ⟨#[]⟩, .int .i64 0] 23)).cell? ⟨g, j, none⟩ = some (.int .u64 x) := fun j x h => (World.cell?_alloc_lt _ _ _ (World.block_lt_of_cell? _ _ h)).trans h
  have HK1 := Lib.hid k1
  have HK4 := Lib.hid k4
  replace k0 := al _ _ k0
  replace k1 := al _ _ k1
  replace k4 := al _ _ k4
  replace k5 := al _ _ k5
  replace k6 := al _ _ k6
  replace k7 := al _ _ k7
  clear al
  go_enter Try.func11, Try.ntmps11
  go_wp2
  go_quiet ((go_at_call 25; exact Calls.quiet_of_same (rsize0_any _)))
  clear m0 m1 m4 m5 k0 k4 k5 k6 k7
  go_wp2_with fail
  replace k1 : ((w.alloc (.cells #[.string ⟨#[]⟩, .int .i64 0] 23)).drewN nq).drew.cell? ⟨g, 1, none⟩ = some (.int .u64 (x1 : Int)) := k1
  go_region_held3 (fun w' => w'.cell? ⟨g, 1, none⟩ = some (.int .u64 (x1 : Int))) (first | (go_keep; done) | exact r1 | exact k1)
    (first
      | (go_at_call 26; refine (rbytes_yes _ m h16 _ _ ((reads_mid (HR.out.on (((below_al w _).trans (below_drewN' _ nq)).drew)))) hr).mono ?_
         rintro e w2 ⟨rfl, hb2⟩
         rw [HK.out]
         have HB2 : Hid (Below w.heap.size w w2) := Lib.hid (after (((below_al w _).trans (below_drewN' _ nq)).drew) hb2)
         have r1 : w2.cell? ⟨g, 1, none⟩ = some (.int .u64 (x1 : Int)) := (HB2.out.cell (World.block_lt_of_cell? _ _ HK1.out)).trans HK1.out
         have r4 : w2.cell? ⟨g, 4, none⟩ = some (.int .u64 (x4 : Int)) := (HB2.out.cell (World.block_lt_of_cell? _ _ HK4.out)).trans HK4.out
         have c0 : w2.cell? ⟨w.heap.size, 0, none⟩ = some (.string ⟨#[]⟩) := (hb2.cell (by simp)).trans (z0' w)
         have c1 : w2.cell? ⟨w.heap.size, 1, none⟩ = some (.int .i64 0) := (hb2.cell (by simp)).trans (z1' w)
         have f0 : w2.frozen? ⟨w.heap.size, 0, none⟩ = false := (hb2.frozen (by simp)).trans (zf' w 0)
         have f1 : w2.frozen? ⟨w.heap.size, 1, none⟩ = false := (hb2.frozen (by simp)).trans (zf' w 1)
         clear hb2))
  go_wp2_with (first
    | (go_at_call 12; refine (rrightLeaf_any K (x4 : Int) HKS.out _).mono ?_
       rintro e w3 ⟨rfl, hb3⟩
       rw [hlo]
       have d0 : w3.cell? ⟨w2.heap.size, 0, none⟩ = some (.string K) := (hb3.cell (by simp)).trans (cell_of_row _ _ 0 #[.string K, .int .i64 (x4 : Int)] 23 (0, 0) (heap_alloc_new w2 _))
       have d1 : w3.cell? ⟨w2.heap.size, 1, none⟩ = some (.int .i64 (x4 : Int)) := (hb3.cell (by simp)).trans (cell_of_row _ _ 1 #[.string K, .int .i64 (x4 : Int)] 23 (0, 0) (heap_alloc_new w2 _))
       have hb23 := after (below_al w2 (.cells #[.string K, .int .i64 (x4 : Int)] 23)) hb3
       replace f0 := (hb23.frozen (World.block_lt_of_cell? _ _ c0)).trans f0
       replace f1 := (hb23.frozen (World.block_lt_of_cell? _ _ c1)).trans f1
       replace c0 := (hb23.cell (World.block_lt_of_cell? _ _ c0)).trans c0
       replace c1 := (hb23.cell (World.block_lt_of_cell? _ _ c1)).trans c1
       have HB3 := Lib.hid (after HB2.out hb23)
       clear hb3 hb23)
    | fail)
  exact bodyPost_ret (v := .tuple #[.agg #[.string ⟨#[]⟩, .int .i64 0], .bool false]) (by simp [results, Try.results11, go_sem, c0, c1]) rfl ⟨_, _, _, rfl, HD.out, (HB3.out.setCell (by simp) _).setCell (by simp) _⟩
set_option maxRecDepth 100000 in
set_option maxHeartbeats 3200000 in
theorem rdec_D (g : Nat) (xs : List Int) (x0 x1 x4 x5 x6 x7 m : Nat) (w : World) (hR : Reads w w.heap.size 1 (some ⟨g, 0, none⟩) 8 (u64s xs)) (k0 : w.cell? ⟨g, 0, none⟩ = some (.int .u64 (x0 : Int))) (k1 : w.cell? ⟨g, 1, none⟩ = some (.int .u64 (x1 : Int))) (k4 : w.cell? ⟨g, 4, none⟩ = some (.int .u64 (x4 : Int))) (k5 : w.cell? ⟨g, 5, none⟩ = some (.int .u64 (x5 : Int))) (k6 : w.cell? ⟨g, 6, none⟩ = some (.int .u64 (x6 : Int))) (k7 : w.cell? ⟨g, 7, none⟩ = some (.int .u64 (x7 : Int)))
    (P : Pass x0 x1 x4 x5 x6 x7) (h1 : IntKind.i64.wrap ((x1 : Int) / 256) = (m : Int)) (h4 : IntKind.i64.wrap (x4 : Int) = (x4 : Int))
    (h16 : m ≤ 16) (hr : restB ((xs.drop 2).take 2) m = true) (K : ByteArray) (HK : Hid (strOfNums (bt ((xs.drop 2).take 2) m m) = K)) (HKS : Hid (K.size ≤ 9223372036854775807)) (hlo : leafOk K (x4 : Int) = true) (HD : Hid (DL xs K (x4 : Int) true)) : Calls Try.prog 11 #[.slice (some ⟨g, 0, none⟩) 8 8] w (DecPost xs w) := by
  have HR := Lib.hid hR
  clear hR
  obtain ⟨m0, m1, m4, m5⟩ := P
  have al : ∀ j x, w.cell? ⟨g, j, none⟩ = some (.int .u64 x) → (w.alloc (.cells #[.string ⟨#[]⟩, .int .i64 0] 23)).cell? ⟨g, j, none⟩ = some (.int .u64 x) := fun j x h => (World.cell?_alloc_lt _ _ _ (World.block_lt_of_cell? _ _ h)).trans h
  have HK1 := Lib.hid k1
  have HK4 := Lib.hid k4
  replace k0 := al _ _ k0
  replace k1 := al _ _ k1
  replace k4 := al _ _ k4
  replace k5 := al _ _ k5
  replace k6 := al _ _ k6
  replace k7 := al _ _ k7
  clear al
  go_enter Try.func11, Try.ntmps11
  go_wp2
  go_quiet ((go_at_call 25; exact Calls.quiet_of_same (rsize0_any _)))
  clear m0 m1 m4 m5 k0 k4 k5 k6 k7
  go_wp2_with fail
  replace k1 : ((w.alloc (.cells #[.string ⟨#[]⟩, .int .i64 0] 23)).drewN nq).drew.cell? ⟨g, 1, none⟩ = some (.int .u64 (x1 : Int)) := k1
  go_region_held3 (fun w' => w'.cell? ⟨g, 1, none⟩ = some (.int .u64 (x1 : Int))) (first | (go_keep; done) | exact r1 | exact k1)
    (first
      | (go_at_call 26; refine (rbytes_yes _ m h16 _ _ ((reads_mid (HR.out.on (((below_al w _).trans (below_drewN' _ nq)).drew)))) hr).mono ?_
         rintro e w2 ⟨rfl, hb2⟩
         rw [HK.out]
         have HB2 : Hid (Below w.heap.size w w2) := Lib.hid (after (((below_al w _).trans (below_drewN' _ nq)).drew) hb2)
         have r1 : w2.cell? ⟨g, 1, none⟩ = some (.int .u64 (x1 : Int)) := (HB2.out.cell (World.block_lt_of_cell? _ _ HK1.out)).trans HK1.out
         have r4 : w2.cell? ⟨g, 4, none⟩ = some (.int .u64 (x4 : Int)) := (HB2.out.cell (World.block_lt_of_cell? _ _ HK4.out)).trans HK4.out
         have c0 : w2.cell? ⟨w.heap.size, 0, none⟩ = some (.string ⟨#[]⟩) := (hb2.cell (by simp)).trans (z0' w)
         have c1 : w2.cell? ⟨w.heap.size, 1, none⟩ = some (.int .i64 0) := (hb2.cell (by simp)).trans (z1' w)
         have f0 : w2.frozen? ⟨w.heap.size, 0, none⟩ = false := (hb2.frozen (by simp)).trans (zf' w 0)
         have f1 : w2.frozen? ⟨w.heap.size, 1, none⟩ = false := (hb2.frozen (by simp)).trans (zf' w 1)
         clear hb2))
  go_wp2_with (first
    | (go_at_call 12; refine (rrightLeaf_any K (x4 : Int) HKS.out _).mono ?_
       rintro e w3 ⟨rfl, hb3⟩
       rw [hlo]
       have d0 : w3.cell? ⟨w2.heap.size, 0, none⟩ = some (.string K) := (hb3.cell (by simp)).trans (cell_of_row _ _ 0 #[.string K, .int .i64 (x4 : Int)] 23 (0, 0) (heap_alloc_new w2 _))
       have d1 : w3.cell? ⟨w2.heap.size, 1, none⟩ = some (.int .i64 (x4 : Int)) := (hb3.cell (by simp)).trans (cell_of_row _ _ 1 #[.string K, .int .i64 (x4 : Int)] 23 (0, 0) (heap_alloc_new w2 _))
       have hb23 := after (below_al w2 (.cells #[.string K, .int .i64 (x4 : Int)] 23)) hb3
       replace f0 := (hb23.frozen (World.block_lt_of_cell? _ _ c0)).trans f0
       replace f1 := (hb23.frozen (World.block_lt_of_cell? _ _ c1)).trans f1
       replace c0 := (hb23.cell (World.block_lt_of_cell? _ _ c0)).trans c0
       replace c1 := (hb23.cell (World.block_lt_of_cell? _ _ c1)).trans c1
       have HB3 := Lib.hid (after HB2.out hb23)
       clear hb3 hb23)
    | fail)
  exact bodyPost_ret (v := .tuple #[.agg #[.string K, .int .i64 (x4 : Int)], .bool true]) (by simp [results, Try.results11, go_sem, c0, c1]) rfl ⟨_, _, _, rfl, HD.out, (HB3.out.setCell (by simp) _).setCell (by simp) _⟩
end Go.Proofs.Ytkobgejeapcfkaa
