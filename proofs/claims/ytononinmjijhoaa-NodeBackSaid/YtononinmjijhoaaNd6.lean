/-
  Same at bytes and at ints; the law's same at two nodes that are the same; conditions: lengths.
-/
import Derived.Test.YtononinmjijhoaaNd5
namespace Go.Proofs.Ytononinmjijhoaa
open Go.RowKit Go.WideShapes Go.ChangeShapes
set_option linter.all false
theorem take_sameI {xs ys : List Int} {k : Nat} (hx : k < xs.length) (hy : k < ys.length) (ht : xs.take k = ys.take k) (h : xs.getD k 0 = ys.getD k 0) : xs.take (k + 1) = ys.take (k + 1) := by
  rw [List.take_succ_eq_append_getElem hx, List.take_succ_eq_append_getElem hy, ht]
  simp only [List.getD_eq_getElem?_getD, List.getElem?_eq_getElem hx, List.getElem?_eq_getElem hy, Option.getD_some] at h
  rw [h]
set_option maxRecDepth 100000 in
set_option maxHeartbeats 1600000 in
theorem same_u8 (B : Nat) (A A' : Option Addr) (n m c c' : Nat) (xs ys : List Int) (w : World) (hx : Reads w B 1 A n (xs.map (Value.int .u8))) (hy : Reads w B 1 A' m (ys.map (Value.int .u8))) (hn : n ≤ 9223372036854775807) (hm : m ≤ 9223372036854775807) :
    Calls Try.prog 15 #[.slice A n c, .slice A' m c'] w fun e w' => e = .returned (.bool (decide (xs = ys))) ∧ ∃ q, w' = w.drewN q := by
  have LX : Hid (xs.length = n) := Lib.hid (klen hx)
  have LY : Hid (ys.length = m) := Lib.hid (klen hy)
  by_cases hnm : n = m
  · subst hnm
    go_enter Try.func15, Try.ntmps15
    go_wp2
    go_loopw [5] (fun i wr => ∃ k : Nat, k ≤ n ∧ i = .int .i64 k ∧ Hid (xs.take k = ys.take k) ∧ Hid (∃ q, wr = w.drewN q)) (fun i _ => n - (intOf i).toNat)
    case atStart => exact ⟨0, Nat.zero_le _, rfl, Lib.hid (by simp), Lib.hid ⟨0, rfl⟩⟩
    case round =>
      obtain ⟨k, hk, rfl, HT, HD⟩ := hrel
      by_cases hlt : k < n
      · have HKX : Hid (k < xs.length) := Lib.hid (by rw [LX.out]; exact hlt)
        have HKY : Hid (k < ys.length) := Lib.hid (by rw [LY.out]; exact hlt)
        obtain ⟨q0, hq0⟩ := HD.out
        have hc : ∀ p : Addr, wr.cell? p = w.cell? p := fun p => by rw [hq0]; rfl
        have HD1 : Hid (∃ q, wr.drew = w.drewN q) := Lib.hid ⟨q0 + 1, by rw [hq0]; exact World.drewN_drewN w q0 1⟩
        obtain ⟨ax, rfl, _, g0⟩ := kget hx hlt
        obtain ⟨ay, rfl, _, g1⟩ := kget hy hlt
        rw [← hc] at g0 g1
        obtain ⟨x, hxx⟩ : ∃ x, x = xs.getD k 0 := ⟨_, rfl⟩
        obtain ⟨y, hyy⟩ : ∃ y, y = ys.getD k 0 := ⟨_, rfl⟩
        rw [← hxx] at g0
        rw [← hyy] at g1
        have HX := Lib.hid hxx
        have HY := Lib.hid hyy
        clear hxx hyy hc hx hy hq0
        by_cases hxy : x = y
        · have hs : (x == y) = true := by simpa using hxy
          have HN : Hid (xs.take (k + 1) = ys.take (k + 1)) := Lib.hid (take_sameI HKX.out HKY.out HT.out (by rw [← HX.out, ← HY.out, hxy]))
          clear hxy
          go_wp2
          go_big_region
          all_goals
            go_wp2
            go_roundw
            case rel => exact ⟨k + 1, by omega, by go_num, HN, HD1⟩
            case measure => simp only [intOf]; omega
        · have hs : (x == y) = false := by simpa using hxy
          have HNE : Hid (decide (xs = ys) = false) := Lib.hid (decide_eq_false (fun e => hxy (by rw [HX.out, HY.out, e])))
          clear hxy
          go_wp2
          go_big_region
          all_goals
            go_wp2
            go_ret
            exact ⟨by rw [HNE.out]; rfl, HD1.out⟩
      · obtain rfl : n = k := by omega
        have HEQ : Hid (decide (xs = ys) = true) := Lib.hid (decide_eq_true (by
          have h := HT.out
          rw [List.take_of_length_le (by rw [LX.out]; exact Nat.le_refl _), List.take_of_length_le (by rw [LY.out]; exact Nat.le_refl _)] at h
          exact h))
        go_wp2
        go_ret
        exact ⟨by rw [HEQ.out]; rfl, HD.out⟩
  · have HNE : Hid (decide (xs = ys) = false) := Lib.hid (decide_eq_false (fun e => hnm (by rw [← LX.out, ← LY.out, e])))
    go_enter Try.func15, Try.ntmps15
    go_wp2
    go_ret
    exact ⟨by rw [HNE.out]; rfl, 0, rfl⟩
set_option maxRecDepth 100000 in
set_option maxHeartbeats 1600000 in
theorem same_i64 (B : Nat) (A A' : Option Addr) (n m c c' : Nat) (xs ys : List Int) (w : World) (hx : Reads w B 1 A n (xs.map (Value.int .i64))) (hy : Reads w B 1 A' m (ys.map (Value.int .i64))) (hn : n ≤ 9223372036854775807) (hm : m ≤ 9223372036854775807) :
    Calls Try.prog 16 #[.slice A n c, .slice A' m c'] w fun e w' => e = .returned (.bool (decide (xs = ys))) ∧ ∃ q, w' = w.drewN q := by
  have LX : Hid (xs.length = n) := Lib.hid (klen hx)
  have LY : Hid (ys.length = m) := Lib.hid (klen hy)
  by_cases hnm : n = m
  · subst hnm
    go_enter Try.func16, Try.ntmps16
    go_wp2
    go_loopw [5] (fun i wr => ∃ k : Nat, k ≤ n ∧ i = .int .i64 k ∧ Hid (xs.take k = ys.take k) ∧ Hid (∃ q, wr = w.drewN q)) (fun i _ => n - (intOf i).toNat)
    case atStart => exact ⟨0, Nat.zero_le _, rfl, Lib.hid (by simp), Lib.hid ⟨0, rfl⟩⟩
    case round =>
      obtain ⟨k, hk, rfl, HT, HD⟩ := hrel
      by_cases hlt : k < n
      · have HKX : Hid (k < xs.length) := Lib.hid (by rw [LX.out]; exact hlt)
        have HKY : Hid (k < ys.length) := Lib.hid (by rw [LY.out]; exact hlt)
        obtain ⟨q0, hq0⟩ := HD.out
        have hc : ∀ p : Addr, wr.cell? p = w.cell? p := fun p => by rw [hq0]; rfl
        have HD1 : Hid (∃ q, wr.drew = w.drewN q) := Lib.hid ⟨q0 + 1, by rw [hq0]; exact World.drewN_drewN w q0 1⟩
        obtain ⟨ax, rfl, _, g0⟩ := kget hx hlt
        obtain ⟨ay, rfl, _, g1⟩ := kget hy hlt
        rw [← hc] at g0 g1
        obtain ⟨x, hxx⟩ : ∃ x, x = xs.getD k 0 := ⟨_, rfl⟩
        obtain ⟨y, hyy⟩ : ∃ y, y = ys.getD k 0 := ⟨_, rfl⟩
        rw [← hxx] at g0
        rw [← hyy] at g1
        have HX := Lib.hid hxx
        have HY := Lib.hid hyy
        clear hxx hyy hc hx hy hq0
        by_cases hxy : x = y
        · have hs : (x == y) = true := by simpa using hxy
          have HN : Hid (xs.take (k + 1) = ys.take (k + 1)) := Lib.hid (take_sameI HKX.out HKY.out HT.out (by rw [← HX.out, ← HY.out, hxy]))
          clear hxy
          go_wp2
          go_big_region
          all_goals
            go_wp2
            go_roundw
            case rel => exact ⟨k + 1, by omega, by go_num, HN, HD1⟩
            case measure => simp only [intOf]; omega
        · have hs : (x == y) = false := by simpa using hxy
          have HNE : Hid (decide (xs = ys) = false) := Lib.hid (decide_eq_false (fun e => hxy (by rw [HX.out, HY.out, e])))
          clear hxy
          go_wp2
          go_big_region
          all_goals
            go_wp2
            go_ret
            exact ⟨by rw [HNE.out]; rfl, HD1.out⟩
      · obtain rfl : n = k := by omega
        have HEQ : Hid (decide (xs = ys) = true) := Lib.hid (decide_eq_true (by
          have h := HT.out
          rw [List.take_of_length_le (by rw [LX.out]; exact Nat.le_refl _), List.take_of_length_le (by rw [LY.out]; exact Nat.le_refl _)] at h
          exact h))
        go_wp2
        go_ret
        exact ⟨by rw [HEQ.out]; rfl, HD.out⟩
  · have HNE : Hid (decide (xs = ys) = false) := Lib.hid (decide_eq_false (fun e => hnm (by rw [← LX.out, ← LY.out, e])))
    go_enter Try.func16, Try.ntmps16
    go_wp2
    go_ret
    exact ⟨by rw [HNE.out]; rfl, 0, rfl⟩
set_option maxRecDepth 100000 in
set_option maxHeartbeats 1600000 in
theorem sameN_any (kd wd : Int) (pf : ByteArray) (A : Option Addr) (c : Nat) (A' : Option Addr) (c' : Nat) (D : Option Addr) (d : Nat) (D' : Option Addr) (d' : Nat) (n : Nat) (xs ys : List Int) (w : World) (hn : n ≤ 256)
    (hx : Reads w w.heap.size 1 A n (xs.map (Value.int .u8))) (hy : Reads w w.heap.size 1 A' n (ys.map (Value.int .i64))) (hu : Reads w w.heap.size 1 D n (xs.map (Value.int .u8))) (hv : Reads w w.heap.size 1 D' n (ys.map (Value.int .i64))) :
    Calls Try.prog 14 #[nodeV kd wd pf A c A' c' n, nodeV kd wd pf D d D' d' n] w fun e w' => e = .returned (.bool true) ∧ Below w.heap.size w w' := by
  obtain ⟨wb, hwb⟩ : ∃ wb, (w.alloc (.cells #[.int .i64 kd, .int .u64 wd, .string pf, .slice A n c, .slice A' n c'] 28)).alloc (.cells #[.int .i64 kd, .int .u64 wd, .string pf, .slice D n d, .slice D' n d'] 28) = wb := ⟨_, rfl⟩
  have HBW : Hid (Below w.heap.size w wb) := Lib.hid (by rw [← hwb]; exact ((Below.refl _ _).alloc (Nat.le_refl _) _).alloc (by simp) _)
  have b0 : wb.heap[w.heap.size]? = some (.cells #[.int .i64 kd, .int .u64 wd, .string pf, .slice A n c, .slice A' n c'] 28 (0, 0)) := by rw [← hwb, heap_alloc_old _ _ (by simp)]; exact heap_alloc_new _ _
  have b1 : wb.heap[w.heap.size + 1]? = some (.cells #[.int .i64 kd, .int .u64 wd, .string pf, .slice D n d, .slice D' n d'] 28 (0, 0)) := by
    rw [← hwb]
    have := heap_alloc_new (w.alloc (.cells #[.int .i64 kd, .int .u64 wd, .string pf, .slice A n c, .slice A' n c'] 28)) (.cells #[.int .i64 kd, .int .u64 wd, .string pf, .slice D n d, .slice D' n d'] 28)
    simpa using this
  have p0 := cell_of b0 0
  have p1 := cell_of b0 1
  have p2 := cell_of b0 2
  have p3 := cell_of b0 3
  have p4 := cell_of b0 4
  have q0 := cell_of b1 0
  have q1 := cell_of b1 1
  have q2 := cell_of b1 2
  have q3 := cell_of b1 3
  have q4 := cell_of b1 4
  have HX : ∀ k, Reads (wb.drewN k) w.heap.size 1 A n (xs.map (Value.int .u8)) := fun k => (hx.below HBW.out).drewN k
  have HY : ∀ k, Reads (wb.drewN k) w.heap.size 1 A' n (ys.map (Value.int .i64)) := fun k => (hy.below HBW.out).drewN k
  have HU : ∀ k, Reads (wb.drewN k) w.heap.size 1 D n (xs.map (Value.int .u8)) := fun k => (hu.below HBW.out).drewN k
  have HV : ∀ k, Reads (wb.drewN k) w.heap.size 1 D' n (ys.map (Value.int .i64)) := fun k => (hv.below HBW.out).drewN k
  have HXX := Lib.hid HX
  have HYY := Lib.hid HY
  have HUU := Lib.hid HU
  have HVV := Lib.hid HV
  have s0 : (kd == kd) = true := by simp
  have s1 : (wd == wd) = true := by simp
  have s2 : (pf.toList == pf.toList) = true := by simp
  have HX15 : Hid (decide (xs = xs) = true) := Lib.hid (by simp)
  have HX16 : Hid (decide (ys = ys) = true) := Lib.hid (by simp)
  have HW := Lib.hid hwb
  clear HX HY HU HV hx hy hu hv b0 b1 hwb
  unfold nodeV
  have P4 := Lib.hid p4
  have Q4 := Lib.hid q4
  have F1 : Hid True := trivial
  clear p0 p1 p2 p3 p4 q0 q1 q2 q3 q4
  go_enter Try.func14, Try.ntmps14
  go_wp2_with (first
    | (go_at_call 15; clear F1; rw [HW.out]; refine (same_u8 w.heap.size A D n n c d xs xs wb (HXX.out 0) (HUU.out 0) (by omega) (by omega)).mono ?_; rintro e w1 ⟨rfl, k1, hk1⟩; rw [show decide (xs = xs) = true from decide_eq_true rfl]; have p4 : w1.cell? ⟨w.heap.size, 4, none⟩ = some (.slice A' n c') := (by rw [hk1]; exact P4.out); have q4 : w1.cell? ⟨w.heap.size + 1, 4, none⟩ = some (.slice D' n d') := (by rw [hk1]; exact Q4.out); have HY1 : Hid (Reads w1 w.heap.size 1 A' n (ys.map (Value.int .i64))) := Lib.hid (by rw [hk1]; exact HYY.out k1); have HV1 : Hid (Reads w1 w.heap.size 1 D' n (ys.map (Value.int .i64))) := Lib.hid (by rw [hk1]; exact HVV.out k1); have HB1 : Hid (Below w.heap.size w w1) := Lib.hid (by rw [hk1]; exact belowN HBW.out k1); clear hk1)
    | (go_at_call 16; refine (same_i64 w.heap.size A' D' n n c' d' ys ys w1 HY1.out HV1.out (by omega) (by omega)).mono ?_; rintro e w2 ⟨rfl, k2, hk2⟩; rw [show decide (ys = ys) = true from decide_eq_true rfl]; have HB2 : Hid (Below w.heap.size w w2) := Lib.hid (by rw [hk2]; exact belowN HB1.out k2); clear hk2 p4 q4)
    | fail)
  go_ret
  exact ⟨rfl, HB2.out⟩
end Go.Proofs.Ytononinmjijhoaa
