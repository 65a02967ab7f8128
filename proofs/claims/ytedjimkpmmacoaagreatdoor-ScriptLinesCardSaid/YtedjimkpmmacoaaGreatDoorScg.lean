/-
  script.beginning at small numbers; conditions: bounds.
-/
import Derived.Test.YtedjimkpmmacoaaGreatDoorScf
import Derived.Test.YtedjimkpmmacoaaGreatDoorScb
import Derived.Deep.CutBlock
import Derived.Deep.CutRange
namespace Go.Proofs.YtedjimkpmmacoaaGreatDoor
open Go.RowKit Go.WideShapes Go.ChangeShapes
set_option linter.all false
def dg1 (v : Nat) : ByteArray := ⟨#[UInt8.ofNat (48 + v)]⟩
def begS (k : Nat) (t : ByteArray) (v : Nat) : ByteArray :=
  if k = 1 then ⟨#[32, 103, 101, 116, 32]⟩ ++ t
  else if k = 2 then ⟨#[32, 112, 117, 116, 32]⟩ ++ t ++ (⟨#[32]⟩ ++ dg1 v)
  else if k = 3 then ⟨#[32, 100, 114, 111, 112, 32]⟩ ++ t
  else if k = 4 then ⟨#[32, 115, 99, 97, 110, 32]⟩ ++ t ++ (⟨#[32]⟩ ++ dg1 v)
  else ⟨#[32, 116, 105, 99, 107]⟩
theorem itoa_dg (k : Nat) (hk : k < 10) (w : World) : Calls Tryz.prog 36 #[.int .i64 (k : Nat)] w fun e w' => e = .returned (.string (dg1 k)) ∧ Below w.heap.size w w' := itoa_any k hk w
theorem dg1_size (v : Nat) : (dg1 v).size = 1 := rfl
set_option maxRecDepth 100000 in
set_option maxHeartbeats 400000 in
theorem beg_any (k : Nat) (t u : ByteArray) (v : Nat) (w : World) (h1 : 1 ≤ k) (h5 : k ≤ 5) (hv : v < 10) (ht : t.size ≤ 4) :
    Calls Tryz.prog 37 #[.agg #[.int .i64 k, .string t, .string u, .int .i64 v]] w fun e w' => e = .returned (.string (begS k t v)) ∧ Below w.heap.size w w' := by
  obtain ⟨wb, hwb⟩ : ∃ wb, w.alloc (.cells #[.int .i64 k, .string t, .string u, .int .i64 v] 35) = wb := ⟨_, rfl⟩
  have HBW : Hid (Below w.heap.size w wb) := Lib.hid (by rw [← hwb]; exact (Below.refl _ _).alloc (Nat.le_refl _) _)
  have HBX : Hid (wb.heap[w.heap.size]? = some (.cells #[.int .i64 k, .string t, .string u, .int .i64 v] 35 (0, 0))) := Lib.hid (by rw [← hwb]; exact heap_alloc_new _ _)
  have HW := Lib.hid hwb
  have HV := Lib.hid hv
  clear hwb
  have p3 : wb.cell? ⟨w.heap.size, 3, none⟩ = some (.int .i64 v) := by rw [cell_of_row wb _ 3 _ 35 (0, 0) HBX.out]; rfl
  go_enter Tryz.func37, Tryz.ntmps37
  go_upto_region 2 with (first
    | (rw [HW.out])
    | (go_at_call 36; refine (itoa_dg v HV.out _).mono ?_; rintro e w1 ⟨rfl, hb1⟩
       have HB1 : Hid (Below wb.heap.size wb w1) := Lib.hid hb1
       clear hb1)
    | fail)
  have hb1 : w1.heap[w.heap.size]? = some (.cells #[.int .i64 k, .string t, .string u, .int .i64 v] 35 (0, 0)) := (HB1.out.block _ (by rw [← HW.out]; simp)).trans HBX.out
  have q0 : w1.cell? ⟨w.heap.size, 0, none⟩ = some (.int .i64 k) := by rw [cell_of_row w1 _ 0 _ 35 (0, 0) hb1]; rfl
  have q1 : w1.cell? ⟨w.heap.size, 1, none⟩ = some (.string t) := by rw [cell_of_row w1 _ 1 _ 35 (0, 0) hb1]; rfl
  have HBB : Hid (Below w.heap.size w w1) := Lib.hid (HBW.out.trans (HB1.out.mono HBW.out.size))
  clear p3 hb1
  obtain ⟨d, hd⟩ : ∃ d, d = dg1 v := ⟨_, rfl⟩
  have hds : d.size = 1 := by rw [hd]; exact dg1_size v
  rw [← hd]
  have HD := Lib.hid hd
  clear hd
  rcases (show k = 1 ∨ k = 2 ∨ k = 3 ∨ k = 4 ∨ k = 5 by omega) with rfl | rfl | rfl | rfl | rfl
  all_goals
    go_wp2
    go_ret
    refine ⟨?_, HBB.out⟩
    first | rfl | (rw [HD.out]; rfl)
end Go.Proofs.YtedjimkpmmacoaaGreatDoor
