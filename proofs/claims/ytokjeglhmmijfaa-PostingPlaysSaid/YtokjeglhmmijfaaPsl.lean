/-
  posting.Of of ids that do not rise or are out of bounds; conditions: lengths.
-/
import Derived.Test.YtokjeglhmmijfaaPsk
namespace Go.Proofs.Ytokjeglhmmijfaa
open Go.RowKit Go.WideShapes Go.ChangeShapes
set_option linter.all false
/-- Number k is an id and above the one before. -/
def okI (l : List Int) (k : Nat) : Prop := 0 ≤ l.getD k 0 ∧ l.getD k 0 ≤ 1073741824 ∧ (0 < k → l.getD (k - 1) 0 < l.getD k 0)
instance (l : List Int) (k : Nat) : Decidable (okI l k) := by unfold okI; infer_instance
def riB (l : List Int) : Nat → Bool
  | 0 => true
  | k + 1 => riB l k && decide (okI l k)
theorem riB_true {l : List Int} : ∀ {k : Nat}, riB l k = true → ∀ i, i < k → okI l i
  | 0, _, i, h => by omega
  | k + 1, h, i, hi => by
    rw [riB, Bool.and_eq_true, decide_eq_true_eq] at h
    rcases Nat.lt_or_ge i k with q | q
    · exact riB_true h.1 i q
    · obtain rfl : i = k := by omega
      exact h.2
theorem riB_false {l : List Int} : ∀ {k : Nat}, riB l k = false → ∃ K, K < k ∧ ¬ okI l K ∧ ∀ i, i < K → okI l i
  | 0, h => by simp [riB] at h
  | k + 1, h => by
    cases hk : riB l k
    · obtain ⟨K, h1, h2⟩ := riB_false hk
      exact ⟨K, by omega, h2⟩
    · rw [riB, hk, Bool.true_and, decide_eq_false_iff_not] at h
      exact ⟨k, by omega, h, riB_true hk⟩
theorem okI_nat : ∀ (l : List Int) (p : Nat), (∀ i, i < l.length → (if i = 0 then (p : Int) else l.getD (i - 1) 0 + 1) ≤ l.getD i 0 ∧ l.getD i 0 ≤ 1073741824) → ∃ l' : List Nat, l = nb l' ∧ ascB p l' = true
  | [], p, _ => ⟨[], rfl, rfl⟩
  | x :: r, p, h => by
    have h0 := h 0 (by simp)
    rw [if_pos rfl, List.getD_cons_zero] at h0
    obtain ⟨y, rfl⟩ : ∃ y : Nat, x = (y : Int) := ⟨x.toNat, by omega⟩
    obtain ⟨r', e, ha⟩ := okI_nat r (y + 1) (fun i hi => by
      have h1 := h (i + 1) (by simp; omega)
      rw [if_neg (by omega), List.getD_cons_succ, Nat.add_sub_cancel] at h1
      cases i with
      | zero => rw [List.getD_cons_zero] at h1; rw [if_pos rfl]; omega
      | succ i => rw [List.getD_cons_succ] at h1; rw [if_neg (by omega), Nat.add_sub_cancel]; exact h1)
    refine ⟨y :: r', by rw [e]; rfl, ?_⟩
    unfold ascB
    rw [Bool.and_eq_true, decide_eq_true_eq]
    exact ⟨by omega, ha⟩
theorem okI_all {l : List Int} (h : ∀ i, i < l.length → okI l i) : ∃ l' : List Nat, l = nb l' ∧ ascB 0 l' = true := by
  refine okI_nat l 0 fun i hi => ?_
  obtain ⟨h1, h2, h3⟩ := h i hi
  by_cases h0 : i = 0
  · rw [if_pos h0]; omega
  · rw [if_neg h0]; have := h3 (by omega); omega
set_option maxRecDepth 100000 in
set_option maxHeartbeats 1600000 in
theorem of_no (F : Nat → Prop) (w : World) (A : Option Addr) (n c : Nat) (l : List Int) (h : SK .i64 w w.heap.size A n c l) (hn : n ≤ 1000) (K : Nat) (hK : K < n) (hbad : ¬ okI l K) (hgood : ∀ i, i < K → okI l i) :
    Calls Try.prog 10 #[.slice A n c] w (OfP [] 8 F w) := by
  obtain ⟨wb, hwb⟩ : ∃ wb, w.alloc (.cells #[.slice none 0 0] 24) = wb := ⟨_, rfl⟩
  have HB : Hid (Below w.heap.size w wb ∧ wb.heap[w.heap.size]? = some (.cells #[.slice none 0 0] 24 (0, 0))) := Lib.hid (hwb ▸ ⟨below_alloc _ _, heap_alloc_new _ _⟩)
  have HS := Lib.hid (h.on (hwb ▸ below_alloc _ _ : Below w.heap.size w wb))
  have HW := Lib.hid hwb
  have HBD := Lib.hid hbad
  have HGD := Lib.hid hgood
  have b0 : wb.cell? ⟨w.heap.size, 0, none⟩ = some (.slice none 0 0) := by rw [cell_of HB.out.2]; rfl
  have f0 : wb.frozen? ⟨w.heap.size, 0, none⟩ = false := frozen_of HB.out.2 0
  have hc9 : c ≤ 9223372036854775807 := by have := h.2.1; unfold maxLen at this; omega
  have hnc := h.1
  clear h hwb hbad hgood
  go_enter Try.func10, Try.ntmps10
  go_upto_region 1 with (fail)
  rw [HW.out]
  go_wp2
  go_loopw [4, 5, 10] (fun _ _ i wr => ∃ k : Nat, k ≤ K ∧ i = .int .i64 k ∧ wr = wb) (fun _ _ i _ => K - (intOf i).toNat)
  case atStart => exact ⟨0, Nat.zero_le _, rfl, rfl⟩
  case round =>
    obtain ⟨k, hk, rfl, rfl⟩ := hrel
    have hkn : k < n := by omega
    have k0 : (0 : Int) ≤ k := by omega
    have k1 : (k : Int) < n := by omega
    obtain ⟨ad, rfl, g0⟩ := HS.out.2.2.2.kat hkn
    by_cases hlt : k < K
    · obtain ⟨a1, a2, a3⟩ := HGD.out k hlt
      have HI : Hid (true = decide (0 ≤ l.getD k 0 ∧ l.getD k 0 ≤ 1073741824)) := Lib.hid (by rw [decide_eq_true ⟨a1, a2⟩])
      cases k with
      | zero =>
        obtain ⟨y, hy⟩ : ∃ y, y = l.getD 0 0 := ⟨_, rfl⟩
        rw [← hy] at HI g0
        have g1 : wr.cell? ad = some (.int .i64 y) := by simpa [Addr.add] using g0
        clear a1 a2 a3 hy g0
        go_wp2_with (first
          | (go_at_call 30; refine (isid_any _ true HI.out _).mono ?_; rintro e w2 ⟨rfl, hw2⟩; rw [hw2]; clear hw2)
          | fail)
        go_roundw
        case rel => exact ⟨1, by omega, by first | rfl | go_num, by trivial⟩
        case measure => simp only [intOf]; omega
      | succ m =>
        obtain ⟨ad', e', g2⟩ := HS.out.2.2.2.kat (show m < n by omega)
        injection e' with e'
        subst e'
        have hlt2 := a3 (by omega)
        rw [Nat.add_sub_cancel] at hlt2
        obtain ⟨y, hy⟩ : ∃ y, y = l.getD (m + 1) 0 := ⟨_, rfl⟩
        obtain ⟨z, hz⟩ : ∃ z, z = l.getD m 0 := ⟨_, rfl⟩
        rw [← hy] at HI g0 hlt2
        rw [← hz] at g2 hlt2
        have g1 : wr.cell? ⟨ad.block, ad.off + (m + 1), none⟩ = some (.int .i64 y) := by rw [← g0]; unfold Addr.add; rw [if_neg (by omega)]
        have hzy : ¬ (z ≥ y) := by omega
        have hm0 : (0 : Int) ≤ m := by omega
        have hmm : (m : Int) < n := by omega
        have hm1 : (m : Int) + 1 < n := by omega
        clear a1 a2 a3 hy hz hlt2
        go_wp2_with (first
          | (go_at_call 30; refine (isid_any _ true HI.out _).mono ?_; rintro e w2 ⟨rfl, hw2⟩; rw [hw2]; clear hw2)
          | fail)
        go_roundw
        case rel => exact ⟨m + 1 + 1, by omega, by first | rfl | go_num, by trivial⟩
        case measure => simp only [intOf]; omega
    · obtain rfl : k = K := by omega
      have hb := HBD.out
      unfold okI at hb
      by_cases hid : 0 ≤ l.getD k 0 ∧ l.getD k 0 ≤ 1073741824
      · have HI : Hid (true = decide (0 ≤ l.getD k 0 ∧ l.getD k 0 ≤ 1073741824)) := Lib.hid (by rw [decide_eq_true hid])
        cases k with
        | zero => exact absurd ⟨hid.1, hid.2, fun h => by omega⟩ hb
        | succ m =>
          obtain ⟨ad', e', g2⟩ := HS.out.2.2.2.kat (show m < n by omega)
          injection e' with e'
          subst e'
          have hlt2 : ¬ l.getD m 0 < l.getD (m + 1) 0 := fun h => hb ⟨hid.1, hid.2, fun _ => h⟩
          obtain ⟨y, hy⟩ : ∃ y, y = l.getD (m + 1) 0 := ⟨_, rfl⟩
          obtain ⟨z, hz⟩ : ∃ z, z = l.getD m 0 := ⟨_, rfl⟩
          rw [← hy] at HI g0 hlt2
          rw [← hz] at g2 hlt2
          have g1 : wr.cell? ⟨ad.block, ad.off + (m + 1), none⟩ = some (.int .i64 y) := by rw [← g0]; unfold Addr.add; rw [if_neg (by omega)]
          have hzy : z ≥ y := by omega
          have hm0 : (0 : Int) ≤ m := by omega
          have hmm : (m : Int) < n := by omega
          have hm1 : (m : Int) + 1 < n := by omega
          clear hb hid hy hz hlt2 hlt
          go_wp2_with (first
            | (go_at_call 30; refine (isid_any _ true HI.out _).mono ?_; rintro e w2 ⟨rfl, hw2⟩; rw [hw2]; clear hw2)
            | fail)
          have h9 := heap_set_one (u := .slice none 0 0) HB.out.2
          have hb9 := HB.out.1.setCell (p := ⟨w.heap.size, 0, none⟩) (Nat.le_refl _) (.slice none 0 0)
          generalize wr.setCell ⟨w.heap.size, 0, none⟩ (.slice none 0 0) = w9 at *
          have e1 : w9.cell? ⟨w.heap.size, 0, none⟩ = some (.slice none 0 0) := by rw [cell_of h9]; rfl
          refine bodyPost_ret (v := .tuple #[.agg #[.slice none 0 0], .int .i64 8]) (by simp [results, Try.results10, go_sem, e1]) rfl ⟨none, 0, rfl, hb9, PLF.nil _ _⟩
      · have HI : Hid (false = decide (0 ≤ l.getD k 0 ∧ l.getD k 0 ≤ 1073741824)) := Lib.hid (by rw [decide_eq_false hid])
        obtain ⟨y, hy⟩ : ∃ y, y = l.getD k 0 := ⟨_, rfl⟩
        rw [← hy] at HI g0
        clear hb hid hy hlt
        go_wp2_with (first
          | (go_at_call 30; refine (isid_any _ false HI.out _).mono ?_; rintro e w2 ⟨rfl, hw2⟩; rw [hw2]; clear hw2)
          | fail)
        have h9 := heap_set_one (u := .slice none 0 0) HB.out.2
        have hb9 := HB.out.1.setCell (p := ⟨w.heap.size, 0, none⟩) (Nat.le_refl _) (.slice none 0 0)
        generalize wr.setCell ⟨w.heap.size, 0, none⟩ (.slice none 0 0) = w9 at *
        have e1 : w9.cell? ⟨w.heap.size, 0, none⟩ = some (.slice none 0 0) := by rw [cell_of h9]; rfl
        refine bodyPost_ret (v := .tuple #[.agg #[.slice none 0 0], .int .i64 8]) (by simp [results, Try.results10, go_sem, e1]) rfl ⟨none, 0, rfl, hb9, PLF.nil _ _⟩
end Go.Proofs.Ytokjeglhmmijfaa
