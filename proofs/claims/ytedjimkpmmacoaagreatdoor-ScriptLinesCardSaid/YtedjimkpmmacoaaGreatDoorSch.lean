/-
  script.Line at small numbers; conditions: bounds.
-/
import Derived.Test.YtedjimkpmmacoaaGreatDoorScg
namespace Go.Proofs.YtedjimkpmmacoaaGreatDoor
open Go.RowKit Go.WideShapes Go.ChangeShapes
set_option linter.all false
theorem begS_size (k : Nat) (t : ByteArray) (v : Nat) (ht : t.size ≤ 4) : (begS k t v).size ≤ 20 := by
  have e5 : (⟨#[32, 103, 101, 116, 32]⟩ : ByteArray).size = 5 := rfl
  have e6 : (⟨#[32, 112, 117, 116, 32]⟩ : ByteArray).size = 5 := rfl
  have e7 : (⟨#[32, 100, 114, 111, 112, 32]⟩ : ByteArray).size = 6 := rfl
  have e8 : (⟨#[32, 115, 99, 97, 110, 32]⟩ : ByteArray).size = 6 := rfl
  have e9 : (⟨#[32, 116, 105, 99, 107]⟩ : ByteArray).size = 5 := rfl
  have e1 : (⟨#[32]⟩ : ByteArray).size = 1 := rfl
  unfold begS
  split
  · rw [ByteArray.size_append]; omega
  · split
    · rw [ByteArray.size_append, ByteArray.size_append, ByteArray.size_append, dg1_size]; omega
    · split
      · rw [ByteArray.size_append]; omega
      · split
        · rw [ByteArray.size_append, ByteArray.size_append, ByteArray.size_append, dg1_size]; omega
        · omega
set_option maxRecDepth 100000 in
set_option maxHeartbeats 800000 in
theorem lineB (c : Nat) (k v : Nat) (t : ByteArray) (w : World) (hc : c < 10) (hk1 : 1 ≤ k) (hk5 : k ≤ 5) (hv : v < 10) (ht : t.size ≤ 4) :
    Calls Tryz.prog 18 #[.agg #[.int .i64 1, .int .i64 c, .int .i64 k, .string t, .string ⟨#[]⟩, .int .i64 v, .int .i64 0, .bool false, .int .i64 0, .slice none 0 0]] w fun e w' => e = .returned (.string (dg1 c ++ begS k t v)) ∧ Below w.heap.size w w' := by
  obtain ⟨wb, hwb⟩ : ∃ wb, w.alloc (.cells #[.int .i64 1, .int .i64 c, .int .i64 k, .string t, .string ⟨#[]⟩, .int .i64 v, .int .i64 0, .bool false, .int .i64 0, .slice none 0 0] 55) = wb := ⟨_, rfl⟩
  have HBW : Hid (Below w.heap.size w wb) := Lib.hid (by rw [← hwb]; exact (Below.refl _ _).alloc (Nat.le_refl _) _)
  have HBX : Hid (wb.heap[w.heap.size]? = some (.cells #[.int .i64 1, .int .i64 c, .int .i64 k, .string t, .string ⟨#[]⟩, .int .i64 v, .int .i64 0, .bool false, .int .i64 0, .slice none 0 0] 55 (0, 0))) := Lib.hid (by rw [← hwb]; exact heap_alloc_new _ _)
  have HLT : Hid (w.heap.size < wb.heap.size) := Lib.hid (by rw [← hwb]; simp)
  have HW := Lib.hid hwb
  have HC := Lib.hid hc
  clear hwb
  have p1 : wb.cell? ⟨w.heap.size, 1, none⟩ = some (.int .i64 c) := by rw [cell_of_row wb _ 1 _ 55 (0, 0) HBX.out]; rfl
  go_enter Tryz.func18, Tryz.ntmps18
  go_upto_region 2 with (first
    | (rw [HW.out])
    | (go_at_call 36; refine (itoa_dg c HC.out _).mono ?_; rintro e w1 ⟨rfl, hb1⟩
       have HB1 : Hid (Below wb.heap.size wb w1) := Lib.hid hb1
       clear hb1)
    | fail)
  have hb1 : w1.heap[w.heap.size]? = some (.cells #[.int .i64 1, .int .i64 c, .int .i64 k, .string t, .string ⟨#[]⟩, .int .i64 v, .int .i64 0, .bool false, .int .i64 0, .slice none 0 0] 55 (0, 0)) := (HB1.out.block _ HLT.out).trans HBX.out
  have q0 : w1.cell? ⟨w.heap.size, 0, none⟩ = some (.int .i64 1) := by rw [cell_of_row w1 _ 0 _ 55 (0, 0) hb1]; rfl
  have q1 : w1.cell? ⟨w.heap.size, 1, none⟩ = some (.int .i64 c) := by rw [cell_of_row w1 _ 1 _ 55 (0, 0) hb1]; rfl
  have q2 : w1.cell? ⟨w.heap.size, 2, none⟩ = some (.int .i64 k) := by rw [cell_of_row w1 _ 2 _ 55 (0, 0) hb1]; rfl
  have q3 : w1.cell? ⟨w.heap.size, 3, none⟩ = some (.string t) := by rw [cell_of_row w1 _ 3 _ 55 (0, 0) hb1]; rfl
  have q4 : w1.cell? ⟨w.heap.size, 4, none⟩ = some (.string ⟨#[]⟩) := by rw [cell_of_row w1 _ 4 _ 55 (0, 0) hb1]; rfl
  have q5 : w1.cell? ⟨w.heap.size, 5, none⟩ = some (.int .i64 v) := by rw [cell_of_row w1 _ 5 _ 55 (0, 0) hb1]; rfl
  have q6 : w1.cell? ⟨w.heap.size, 6, none⟩ = some (.int .i64 0) := by rw [cell_of_row w1 _ 6 _ 55 (0, 0) hb1]; rfl
  have q7 : w1.cell? ⟨w.heap.size, 7, none⟩ = some (.bool false) := by rw [cell_of_row w1 _ 7 _ 55 (0, 0) hb1]; rfl
  have q8 : w1.cell? ⟨w.heap.size, 8, none⟩ = some (.int .i64 0) := by rw [cell_of_row w1 _ 8 _ 55 (0, 0) hb1]; rfl
  have q9 : w1.cell? ⟨w.heap.size, 9, none⟩ = some (.slice none 0 0) := by rw [cell_of_row w1 _ 9 _ 55 (0, 0) hb1]; rfl
  have HBB : Hid (Below w.heap.size w w1) := Lib.hid (HBW.out.trans (HB1.out.mono HBW.out.size))
  clear p1 hb1
  obtain ⟨d, hd⟩ : ∃ d, d = dg1 c := ⟨_, rfl⟩
  have hds : d.size = 1 := by rw [hd]; exact dg1_size c
  rw [← hd]
  have HD := Lib.hid hd
  clear hd
  have HKS := Lib.hid (And.intro hk1 (And.intro hk5 (And.intro hv ht)))
  have hbs := begS_size k t v ht
  obtain ⟨b, hb⟩ : ∃ b, b = begS k t v := ⟨_, rfl⟩
  rw [← hb] at hbs
  have HBG := Lib.hid hb
  clear hb
  go_wp2_with (first
    | (go_at_call 37; refine (beg_any k t ⟨#[]⟩ v _ HKS.out.1 HKS.out.2.1 HKS.out.2.2.1 HKS.out.2.2.2).mono ?_; rintro e w2 ⟨rfl, hb2⟩
       rw [← HBG.out]
       have HB2 := Lib.hid hb2
       clear hb2)
    | fail)
  go_ret
  exact ⟨by rw [HD.out, HBG.out]; rfl, HBB.out.trans (HB2.out.mono HBB.out.size)⟩
def sd1 (v : Nat) : ByteArray := ⟨#[32, UInt8.ofNat (48 + v)]⟩
theorem out_dg (k : Nat) (hk : k < 10) (w : World) : Calls Tryz.prog 38 #[.agg #[.int .i64 0, .bool true, .int .i64 (k : Nat), .slice none 0 0]] w fun e w' => e = .returned (.string (sd1 k)) ∧ Below w.heap.size w w' := out_any k hk w
theorem sd1_size (v : Nat) : (sd1 v).size = 2 := rfl
set_option maxRecDepth 100000 in
set_option maxHeartbeats 800000 in
theorem lineD (c : Nat) (v : Nat) (w : World) (hc : c < 10) (hv : v < 10) :
    Calls Tryz.prog 18 #[.agg #[.int .i64 2, .int .i64 c, .int .i64 0, .string ⟨#[]⟩, .string ⟨#[]⟩, .int .i64 0, .int .i64 0, .bool true, .int .i64 v, .slice none 0 0]] w fun e w' => e = .returned (.string (dg1 c ++ ⟨#[32, 100, 111, 110, 101]⟩ ++ sd1 v)) ∧ Below w.heap.size w w' := by
  obtain ⟨wb, hwb⟩ : ∃ wb, w.alloc (.cells #[.int .i64 2, .int .i64 c, .int .i64 0, .string ⟨#[]⟩, .string ⟨#[]⟩, .int .i64 0, .int .i64 0, .bool true, .int .i64 v, .slice none 0 0] 55) = wb := ⟨_, rfl⟩
  have HBW : Hid (Below w.heap.size w wb) := Lib.hid (by rw [← hwb]; exact (Below.refl _ _).alloc (Nat.le_refl _) _)
  have HBX : Hid (wb.heap[w.heap.size]? = some (.cells #[.int .i64 2, .int .i64 c, .int .i64 0, .string ⟨#[]⟩, .string ⟨#[]⟩, .int .i64 0, .int .i64 0, .bool true, .int .i64 v, .slice none 0 0] 55 (0, 0))) := Lib.hid (by rw [← hwb]; exact heap_alloc_new _ _)
  have HLT : Hid (w.heap.size < wb.heap.size) := Lib.hid (by rw [← hwb]; simp)
  have HW := Lib.hid hwb
  have HC := Lib.hid hc
  clear hwb
  have p1 : wb.cell? ⟨w.heap.size, 1, none⟩ = some (.int .i64 c) := by rw [cell_of_row wb _ 1 _ 55 (0, 0) HBX.out]; rfl
  go_enter Tryz.func18, Tryz.ntmps18
  go_upto_region 2 with (first
    | (rw [HW.out])
    | (go_at_call 36; refine (itoa_dg c HC.out _).mono ?_; rintro e w1 ⟨rfl, hb1⟩
       have HB1 : Hid (Below wb.heap.size wb w1) := Lib.hid hb1
       clear hb1)
    | fail)
  have hb1 : w1.heap[w.heap.size]? = some (.cells #[.int .i64 2, .int .i64 c, .int .i64 0, .string ⟨#[]⟩, .string ⟨#[]⟩, .int .i64 0, .int .i64 0, .bool true, .int .i64 v, .slice none 0 0] 55 (0, 0)) := (HB1.out.block _ HLT.out).trans HBX.out
  have q0 : w1.cell? ⟨w.heap.size, 0, none⟩ = some (.int .i64 2) := by rw [cell_of_row w1 _ 0 _ 55 (0, 0) hb1]; rfl
  have q1 : w1.cell? ⟨w.heap.size, 1, none⟩ = some (.int .i64 c) := by rw [cell_of_row w1 _ 1 _ 55 (0, 0) hb1]; rfl
  have q2 : w1.cell? ⟨w.heap.size, 2, none⟩ = some (.int .i64 0) := by rw [cell_of_row w1 _ 2 _ 55 (0, 0) hb1]; rfl
  have q3 : w1.cell? ⟨w.heap.size, 3, none⟩ = some (.string ⟨#[]⟩) := by rw [cell_of_row w1 _ 3 _ 55 (0, 0) hb1]; rfl
  have q4 : w1.cell? ⟨w.heap.size, 4, none⟩ = some (.string ⟨#[]⟩) := by rw [cell_of_row w1 _ 4 _ 55 (0, 0) hb1]; rfl
  have q5 : w1.cell? ⟨w.heap.size, 5, none⟩ = some (.int .i64 0) := by rw [cell_of_row w1 _ 5 _ 55 (0, 0) hb1]; rfl
  have q6 : w1.cell? ⟨w.heap.size, 6, none⟩ = some (.int .i64 0) := by rw [cell_of_row w1 _ 6 _ 55 (0, 0) hb1]; rfl
  have q7 : w1.cell? ⟨w.heap.size, 7, none⟩ = some (.bool true) := by rw [cell_of_row w1 _ 7 _ 55 (0, 0) hb1]; rfl
  have q8 : w1.cell? ⟨w.heap.size, 8, none⟩ = some (.int .i64 v) := by rw [cell_of_row w1 _ 8 _ 55 (0, 0) hb1]; rfl
  have q9 : w1.cell? ⟨w.heap.size, 9, none⟩ = some (.slice none 0 0) := by rw [cell_of_row w1 _ 9 _ 55 (0, 0) hb1]; rfl
  have HBB : Hid (Below w.heap.size w w1) := Lib.hid (HBW.out.trans (HB1.out.mono HBW.out.size))
  clear p1 hb1
  obtain ⟨d, hd⟩ : ∃ d, d = dg1 c := ⟨_, rfl⟩
  have hds : d.size = 1 := by rw [hd]; exact dg1_size c
  rw [← hd]
  have HD := Lib.hid hd
  clear hd
  have HV := Lib.hid hv
  obtain ⟨b, hb⟩ : ∃ b, b = sd1 v := ⟨_, rfl⟩
  have hbs : b.size = 2 := by rw [hb]; exact sd1_size v
  have HBG := Lib.hid hb
  clear hb
  go_wp2_with (first
    | (go_at_call 38; refine (out_dg v HV.out _).mono ?_; rintro e w2 ⟨rfl, hb2⟩
       rw [← HBG.out]
       have HB2 := Lib.hid hb2
       clear hb2)
    | fail)
  go_ret
  exact ⟨by rw [HD.out, HBG.out]; rfl, HBB.out.trans (HB2.out.mono HBB.out.size)⟩
set_option maxRecDepth 100000 in
set_option maxHeartbeats 800000 in
theorem lineN (c : Nat) (K : Nat) (w : World) (hc : c < 10) (hk : 3 ≤ K) :
    Calls Tryz.prog 18 #[.agg #[.int .i64 K, .int .i64 c, .int .i64 0, .string ⟨#[]⟩, .string ⟨#[]⟩, .int .i64 0, .int .i64 0, .bool false, .int .i64 0, .slice none 0 0]] w fun e w' => e = .returned (.string (⟨#[]⟩)) ∧ Below w.heap.size w w' := by
  obtain ⟨wb, hwb⟩ : ∃ wb, w.alloc (.cells #[.int .i64 K, .int .i64 c, .int .i64 0, .string ⟨#[]⟩, .string ⟨#[]⟩, .int .i64 0, .int .i64 0, .bool false, .int .i64 0, .slice none 0 0] 55) = wb := ⟨_, rfl⟩
  have HBW : Hid (Below w.heap.size w wb) := Lib.hid (by rw [← hwb]; exact (Below.refl _ _).alloc (Nat.le_refl _) _)
  have HBX : Hid (wb.heap[w.heap.size]? = some (.cells #[.int .i64 K, .int .i64 c, .int .i64 0, .string ⟨#[]⟩, .string ⟨#[]⟩, .int .i64 0, .int .i64 0, .bool false, .int .i64 0, .slice none 0 0] 55 (0, 0))) := Lib.hid (by rw [← hwb]; exact heap_alloc_new _ _)
  have HLT : Hid (w.heap.size < wb.heap.size) := Lib.hid (by rw [← hwb]; simp)
  have HW := Lib.hid hwb
  have HC := Lib.hid hc
  clear hwb
  have p1 : wb.cell? ⟨w.heap.size, 1, none⟩ = some (.int .i64 c) := by rw [cell_of_row wb _ 1 _ 55 (0, 0) HBX.out]; rfl
  go_enter Tryz.func18, Tryz.ntmps18
  go_upto_region 2 with (first
    | (rw [HW.out])
    | (go_at_call 36; refine (itoa_dg c HC.out _).mono ?_; rintro e w1 ⟨rfl, hb1⟩
       have HB1 : Hid (Below wb.heap.size wb w1) := Lib.hid hb1
       clear hb1)
    | fail)
  have hb1 : w1.heap[w.heap.size]? = some (.cells #[.int .i64 K, .int .i64 c, .int .i64 0, .string ⟨#[]⟩, .string ⟨#[]⟩, .int .i64 0, .int .i64 0, .bool false, .int .i64 0, .slice none 0 0] 55 (0, 0)) := (HB1.out.block _ HLT.out).trans HBX.out
  have q0 : w1.cell? ⟨w.heap.size, 0, none⟩ = some (.int .i64 K) := by rw [cell_of_row w1 _ 0 _ 55 (0, 0) hb1]; rfl
  have q1 : w1.cell? ⟨w.heap.size, 1, none⟩ = some (.int .i64 c) := by rw [cell_of_row w1 _ 1 _ 55 (0, 0) hb1]; rfl
  have q2 : w1.cell? ⟨w.heap.size, 2, none⟩ = some (.int .i64 0) := by rw [cell_of_row w1 _ 2 _ 55 (0, 0) hb1]; rfl
  have q3 : w1.cell? ⟨w.heap.size, 3, none⟩ = some (.string ⟨#[]⟩) := by rw [cell_of_row w1 _ 3 _ 55 (0, 0) hb1]; rfl
  have q4 : w1.cell? ⟨w.heap.size, 4, none⟩ = some (.string ⟨#[]⟩) := by rw [cell_of_row w1 _ 4 _ 55 (0, 0) hb1]; rfl
  have q5 : w1.cell? ⟨w.heap.size, 5, none⟩ = some (.int .i64 0) := by rw [cell_of_row w1 _ 5 _ 55 (0, 0) hb1]; rfl
  have q6 : w1.cell? ⟨w.heap.size, 6, none⟩ = some (.int .i64 0) := by rw [cell_of_row w1 _ 6 _ 55 (0, 0) hb1]; rfl
  have q7 : w1.cell? ⟨w.heap.size, 7, none⟩ = some (.bool false) := by rw [cell_of_row w1 _ 7 _ 55 (0, 0) hb1]; rfl
  have q8 : w1.cell? ⟨w.heap.size, 8, none⟩ = some (.int .i64 0) := by rw [cell_of_row w1 _ 8 _ 55 (0, 0) hb1]; rfl
  have q9 : w1.cell? ⟨w.heap.size, 9, none⟩ = some (.slice none 0 0) := by rw [cell_of_row w1 _ 9 _ 55 (0, 0) hb1]; rfl
  have HBB : Hid (Below w.heap.size w w1) := Lib.hid (HBW.out.trans (HB1.out.mono HBW.out.size))
  clear p1 hb1
  obtain ⟨d, hd⟩ : ∃ d, d = dg1 c := ⟨_, rfl⟩
  have hds : d.size = 1 := by rw [hd]; exact dg1_size c
  rw [← hd]
  have HD := Lib.hid hd
  clear hd
  have n1 : ((K : Int) == 1) = false := by simp; omega
  have n2 : ((K : Int) == 2) = false := by simp; omega
  go_wp2
  go_ret
  exact ⟨rfl, HBB.out⟩
end Go.Proofs.YtedjimkpmmacoaaGreatDoor
