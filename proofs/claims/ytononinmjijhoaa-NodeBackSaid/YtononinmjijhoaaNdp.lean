/-
  The law's same at any two nodes by value: just if they are the same; conditions: lengths.
-/
import Derived.Test.YtononinmjijhoaaNd6
namespace Go.Proofs.Ytononinmjijhoaa
open Go.RowKit Go.WideShapes Go.ChangeShapes
set_option linter.all false
theorem str_same {a b : ByteArray} : (a.toList == b.toList) = decide (a = b) := by
  by_cases h : a = b
  · subst h; simp
  · rw [decide_eq_false h]
    have : ¬ a.toList = b.toList := fun e => h (ByteArray.ext (Array.ext' (by rw [ByteArray.toList_eq, ByteArray.toList_eq] at e; exact e)))
    simpa using this
set_option maxRecDepth 100000 in
set_option maxHeartbeats 1600000 in
theorem same_gen (kd wd : Int) (pf : ByteArray) (A : Option Addr) (c : Nat) (A' : Option Addr) (c' n : Nat) (xs ys : List Int) (kd2 wd2 : Int) (pf2 : ByteArray) (D : Option Addr) (d : Nat) (D' : Option Addr) (d' n2 : Nat) (us vs : List Int) (w : World) (hn : n ≤ 256) (hn2 : n2 ≤ 256)
    (hx : Reads w w.heap.size 1 A n (xs.map (Value.int .u8))) (hy : Reads w w.heap.size 1 A' n (ys.map (Value.int .i64))) (hu : Reads w w.heap.size 1 D n2 (us.map (Value.int .u8))) (hv : Reads w w.heap.size 1 D' n2 (vs.map (Value.int .i64))) :
    Calls Try.prog 14 #[nodeV kd wd pf A c A' c' n, nodeV kd2 wd2 pf2 D d D' d' n2] w fun e w' => e = .returned (.bool (decide (kd = kd2) && decide (wd = wd2) && decide (pf = pf2) && decide (xs = us) && decide (ys = vs))) ∧ Below w.heap.size w w' := by
  obtain ⟨wb, hwb⟩ : ∃ wb, (w.alloc (.cells #[.int .i64 kd, .int .u64 wd, .string pf, .slice A n c, .slice A' n c'] 28)).alloc (.cells #[.int .i64 kd2, .int .u64 wd2, .string pf2, .slice D n2 d, .slice D' n2 d'] 28) = wb := ⟨_, rfl⟩
  have HBW : Hid (Below w.heap.size w wb) := Lib.hid (by rw [← hwb]; exact ((Below.refl _ _).alloc (Nat.le_refl _) _).alloc (by simp) _)
  have b0 : wb.heap[w.heap.size]? = some (.cells #[.int .i64 kd, .int .u64 wd, .string pf, .slice A n c, .slice A' n c'] 28 (0, 0)) := by rw [← hwb, heap_alloc_old _ _ (by simp)]; exact heap_alloc_new _ _
  have b1 : wb.heap[w.heap.size + 1]? = some (.cells #[.int .i64 kd2, .int .u64 wd2, .string pf2, .slice D n2 d, .slice D' n2 d'] 28 (0, 0)) := by
    rw [← hwb]
    have := heap_alloc_new (w.alloc (.cells #[.int .i64 kd, .int .u64 wd, .string pf, .slice A n c, .slice A' n c'] 28)) (.cells #[.int .i64 kd2, .int .u64 wd2, .string pf2, .slice D n2 d, .slice D' n2 d'] 28)
    simpa using this
  have P4 : Hid (wb.cell? ⟨w.heap.size, 4, none⟩ = some (.slice A' n c')) := Lib.hid (cell_of b0 4)
  have Q4 : Hid (wb.cell? ⟨w.heap.size + 1, 4, none⟩ = some (.slice D' n2 d')) := Lib.hid (cell_of b1 4)
  have HXX : Hid (∀ k, Reads (wb.drewN k) w.heap.size 1 A n (xs.map (Value.int .u8))) := Lib.hid fun k => (hx.below HBW.out).drewN k
  have HYY : Hid (∀ k, Reads (wb.drewN k) w.heap.size 1 A' n (ys.map (Value.int .i64))) := Lib.hid fun k => (hy.below HBW.out).drewN k
  have HUU : Hid (∀ k, Reads (wb.drewN k) w.heap.size 1 D n2 (us.map (Value.int .u8))) := Lib.hid fun k => (hu.below HBW.out).drewN k
  have HVV : Hid (∀ k, Reads (wb.drewN k) w.heap.size 1 D' n2 (vs.map (Value.int .i64))) := Lib.hid fun k => (hv.below HBW.out).drewN k
  obtain ⟨X, hX⟩ : ∃ X, decide (xs = us) = X := ⟨_, rfl⟩
  obtain ⟨Y, hY⟩ : ∃ Y, decide (ys = vs) = Y := ⟨_, rfl⟩
  obtain ⟨e0, he0⟩ : ∃ e0, decide (kd = kd2) = e0 := ⟨_, rfl⟩
  obtain ⟨e1, he1⟩ : ∃ e1, decide (wd = wd2) = e1 := ⟨_, rfl⟩
  obtain ⟨e2, he2⟩ : ∃ e2, decide (pf = pf2) = e2 := ⟨_, rfl⟩
  rw [hX, hY, he0, he1, he2]
  have HXE := Lib.hid hX
  have HYE := Lib.hid hY
  have s0 : (kd == kd2) = e0 := by rw [← he0]; rfl
  have s1 : (wd == wd2) = e1 := by rw [← he1]; rfl
  have s2 : (pf.toList == pf2.toList) = e2 := by rw [← he2]; exact str_same
  have HW := Lib.hid hwb
  clear hx hy hu hv b0 b1 hwb hX hY he0 he1 he2
  unfold nodeV
  have F1 : Hid True := trivial
  cases e0
  ·   go_enter Try.func14, Try.ntmps14
      go_wp2_with (first
        | fail)
      rw [HW.out]
      go_ret
      exact ⟨by simp, HBW.out⟩
  · cases e1
    ·   go_enter Try.func14, Try.ntmps14
        go_wp2_with (first
          | fail)
        rw [HW.out]
        go_ret
        exact ⟨by simp, HBW.out⟩
    · cases e2
      ·   go_enter Try.func14, Try.ntmps14
          go_wp2_with (first
            | fail)
          rw [HW.out]
          go_ret
          exact ⟨by simp, HBW.out⟩
      · cases X
        ·   go_enter Try.func14, Try.ntmps14
            go_wp2_with (first
              | (go_at_call 15; clear F1; rw [HW.out]; refine (same_u8 w.heap.size A D n n2 c d xs us wb (HXX.out 0) (HUU.out 0) (by omega) (by omega)).mono ?_; rintro e w1 ⟨rfl, k1, hk1⟩; rw [HXE.out]; have p4 : w1.cell? ⟨w.heap.size, 4, none⟩ = some (.slice A' n c') := (by rw [hk1]; exact P4.out); have q4 : w1.cell? ⟨w.heap.size + 1, 4, none⟩ = some (.slice D' n2 d') := (by rw [hk1]; exact Q4.out); have HY1 : Hid (Reads w1 w.heap.size 1 A' n (ys.map (Value.int .i64))) := Lib.hid (by rw [hk1]; exact HYY.out k1); have HV1 : Hid (Reads w1 w.heap.size 1 D' n2 (vs.map (Value.int .i64))) := Lib.hid (by rw [hk1]; exact HVV.out k1); have HB1 : Hid (Below w.heap.size w w1) := Lib.hid (by rw [hk1]; exact belowN HBW.out k1); clear hk1)
              | fail)
            go_ret
            exact ⟨by simp, HB1.out⟩
        ·   go_enter Try.func14, Try.ntmps14
            go_wp2_with (first
              | (go_at_call 15; clear F1; rw [HW.out]; refine (same_u8 w.heap.size A D n n2 c d xs us wb (HXX.out 0) (HUU.out 0) (by omega) (by omega)).mono ?_; rintro e w1 ⟨rfl, k1, hk1⟩; rw [HXE.out]; have p4 : w1.cell? ⟨w.heap.size, 4, none⟩ = some (.slice A' n c') := (by rw [hk1]; exact P4.out); have q4 : w1.cell? ⟨w.heap.size + 1, 4, none⟩ = some (.slice D' n2 d') := (by rw [hk1]; exact Q4.out); have HY1 : Hid (Reads w1 w.heap.size 1 A' n (ys.map (Value.int .i64))) := Lib.hid (by rw [hk1]; exact HYY.out k1); have HV1 : Hid (Reads w1 w.heap.size 1 D' n2 (vs.map (Value.int .i64))) := Lib.hid (by rw [hk1]; exact HVV.out k1); have HB1 : Hid (Below w.heap.size w w1) := Lib.hid (by rw [hk1]; exact belowN HBW.out k1); clear hk1)
              | (go_at_call 16; refine (same_i64 w.heap.size A' D' n n2 c' d' ys vs w1 HY1.out HV1.out (by omega) (by omega)).mono ?_; rintro e w2 ⟨rfl, k2, hk2⟩; rw [HYE.out]; have HB2 : Hid (Below w.heap.size w w2) := Lib.hid (by rw [hk2]; exact belowN HB1.out k2); clear hk2 p4 q4)
              | fail)
            go_ret
            exact ⟨by simp, HB2.out⟩
end Go.Proofs.Ytononinmjijhoaa
