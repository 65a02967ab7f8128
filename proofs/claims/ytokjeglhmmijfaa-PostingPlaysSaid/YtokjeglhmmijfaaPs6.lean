/-
  The block of an id; conditions: a right list.
-/
import Derived.Test.YtokjeglhmmijfaaPs5
namespace Go.Proofs.Ytokjeglhmmijfaa
open Go.RowKit Go.WideShapes Go.ChangeShapes
set_option linter.all false
set_option maxRecDepth 100000 in
set_option maxHeartbeats 1600000 in
theorem search_any (A : Option Addr) (n c : Nat) (L : List (List Nat)) (x : Int) (P Q : Nat) (w : World) (h : PL w w.heap.size A n c L) (hR : RL L) (hn : n ≤ 1000000)
    (hP : w.cell? ⟨P, 0, none⟩ = some (.slice A n c)) (hQ : w.cell? ⟨Q, 0, none⟩ = some (.int .i64 x)) :
    Calls Try.prog 45 #[.int .i64 n, .func (.func 46) #[] #[.pointer (some ⟨P, 0, none⟩), .pointer (some ⟨Q, 0, none⟩)]] w fun e w' => e = .returned (.int .i64 ((cntL x L : Nat) : Int)) ∧ Below w.heap.size w w' := by
  obtain ⟨q, hq⟩ : ∃ q, q = cntL x L := ⟨_, rfl⟩
  have hqn : q ≤ n := by rw [hq, ← h.len]; exact cntL_le x L
  have HQE := Lib.hid hq
  rw [← hq]
  have HP := Lib.hid hP
  have HQ := Lib.hid hQ
  have HPl := Lib.hid (World.block_lt_of_cell? w _ hP)
  have HQl := Lib.hid (World.block_lt_of_cell? w _ hQ)
  have HL := Lib.hid h
  have HR := Lib.hid hR
  clear hq h hR hP hQ
  go_enter Try.func45, Try.ntmps45
  go_wp2
  go_loopw [5, 6, 7] (fun i j _ wr => Hid (Below w.heap.size w wr) ∧ ∃ k m : Nat, k ≤ q ∧ q ≤ m ∧ m ≤ n ∧ i = .int .i64 k ∧ j = .int .i64 m) (fun i j _ _ => (intOf j).toNat - (intOf i).toNat)
  case atStart => exact ⟨Lib.hid (Below.refl _ _), 0, n, Nat.zero_le _, hqn, Nat.le_refl _, rfl, rfl⟩
  case round =>
    obtain ⟨HB, k, m, hkq, hqm, hm, rfl, rfl⟩ := hrel
    by_cases hlt : k < m
    · obtain ⟨hN, hhN⟩ : ∃ hN, hN = (k + m) / 2 := ⟨_, rfl⟩
      have hr : ((k : Int) + (m : Int)) / 2 = (hN : Int) := by omega
      have hr1 : hN < n := by omega
      have hr2 : (hN : Int) < (n : Int) := by omega
      have hr3 : (0 : Int) ≤ (hN : Int) := by omega
      have HHN := Lib.hid hhN
      clear hhN
      have HC : Hid (∀ b, b = decide (q ≤ hN) → Calls Try.prog 46 #[.int .i64 hN, .pointer (some ⟨P, 0, none⟩), .pointer (some ⟨Q, 0, none⟩)] wr fun e w' => e = .returned (.bool b) ∧ Below wr.heap.size wr w') :=
        Lib.hid (fun b hb => first_any A n c hN L x P Q wr (HL.out.on HB.out) HR.out hr1 b (by rw [← HQE.out]; exact hb) ((HB.out.cell (p := ⟨P, 0, none⟩) HPl.out).trans HP.out) ((HB.out.cell (p := ⟨Q, 0, none⟩) HQl.out).trans HQ.out))
      by_cases hc : q ≤ hN
      · have hd : Hid (true = decide (q ≤ hN)) := Lib.hid (by simp [hc])
        go_wp2_with (first
          | (go_at_call 46; refine (HC.out true hd.out).mono ?_; rintro e w2 ⟨rfl, hb2⟩; have HB2 := Lib.hid hb2; clear hb2)
          | fail)
        go_roundw
        case rel => exact ⟨Lib.hid (HB.out.trans (HB2.out.mono HB.out.size)), k, hN, hkq, hc, by omega, rfl, by go_num⟩
        case measure => simp only [intOf]; have := HHN.out; omega
      · have hd : Hid (false = decide (q ≤ hN)) := Lib.hid (by simp [hc])
        go_wp2_with (first
          | (go_at_call 46; refine (HC.out false hd.out).mono ?_; rintro e w2 ⟨rfl, hb2⟩; have HB2 := Lib.hid hb2; clear hb2)
          | fail)
        go_roundw
        case rel => exact ⟨Lib.hid (HB.out.trans (HB2.out.mono HB.out.size)), hN + 1, m, by omega, hqm, hm, by go_num, rfl⟩
        case measure => simp only [intOf]; have := HHN.out; omega
    · obtain rfl : k = m := by omega
      obtain rfl : k = q := by omega
      go_wp2
      go_ret
      exact ⟨rfl, HB.out⟩
set_option maxRecDepth 100000 in
set_option maxHeartbeats 1600000 in
theorem blockOf_any (A : Option Addr) (n c : Nat) (L : List (List Nat)) (x : Int) (w : World) (h : PL w w.heap.size A n c L) (hR : RL L) (hn : n ≤ 1000000) :
    Calls Try.prog 34 #[plV A n c, .int .i64 x] w fun e w' => e = .returned (.int .i64 ((kOf x L : Nat) : Int)) ∧ Below w.heap.size w w' := by
  obtain ⟨q, hq⟩ : ∃ q, q = cntL x L := ⟨_, rfl⟩
  have hqn : q ≤ n := by rw [hq, ← h.len]; exact cntL_le x L
  have HQE := Lib.hid hq
  have HL := Lib.hid h
  have HR := Lib.hid hR
  obtain ⟨wb, hwb⟩ : ∃ wb, (w.alloc (.cells #[.slice A n c] 24)).alloc (.cells #[.int .i64 x] 3) = wb := ⟨_, rfl⟩
  have HB : Hid (Below w.heap.size w wb) := Lib.hid (by rw [← hwb]; exact ((Below.refl _ _).alloc (Nat.le_refl _) _).alloc (by simp) _)
  have p0 : wb.cell? ⟨w.heap.size, 0, none⟩ = some (.slice A n c) := by
    rw [← hwb, World.cell?_alloc_lt _ _ _ (by simp), cell_of (heap_alloc_new w _)]; rfl
  have p1 : wb.cell? ⟨w.heap.size + 1, 0, none⟩ = some (.int .i64 x) := by
    have := cell_of (heap_alloc_new (w.alloc (.cells #[.slice A n c] 24)) (.cells #[.int .i64 x] 3)) 0
    rw [← hwb]; simpa using this
  have HW := Lib.hid hwb
  have hk : Hid (((kOf x L : Nat) : Int) = max ((q : Int) - 1) 0) := Lib.hid (by unfold kOf; rw [← hq]; omega)
  clear hq h hR hwb
  unfold plV
  go_enter Try.func34, Try.ntmps34
  go_upto_region 1 with (fail)
  rw [HW.out]
  go_wp2_with (first
    | (go_at_call 45; refine (search_any A n c L x w.heap.size (w.heap.size + 1) _ (HL.out.on HB.out) HR.out hn p0 p1).mono ?_; rintro e w2 ⟨rfl, hb2⟩; rw [← HQE.out]; have HB2 := Lib.hid hb2; clear hb2)
    | fail)
  go_ret
  refine ⟨?_, HB.out.trans (HB2.out.mono HB.out.size)⟩
  rw [hk.out]

  rfl
end Go.Proofs.Ytokjeglhmmijfaa
