/-
  Contracts of the word package's functions and of the book's, and the walk of the law WordTells; no condition but that integers fit their kinds.
-/
import Derived.Test.YtmmdalpamlfenaaRows
import Derived.WalkKit
import Derived.ProofKit
import Derived.OpenShut
import Derived.Laws.BitsLemmas
import Derived.Test.YtmmdalpamlfenaaEvI
namespace Go.Proofs.Ytmmdalpamlfenaa
open Go.ChangeShapes Go.WideShapes Go.ChangeAt Go.RowKit
set_option linter.unusedVariables false
set_option linter.unusedSimpArgs false
set_option maxHeartbeats 1000000
def freeB (a : Int) : Bool := bits .and .u64 a 3 == 0
def deadB (a : Int) : Bool := !(bits .and .u64 a 2 == 0)
def lockV (a : Int) : Int := if freeB a = true then bits .or .u64 a 1 else 0
def unlockV (a : Int) : Int := IntKind.u64.wrap (bits .andNot .u64 a 3 + 4)
def killV (a : Int) : Int := bits .or .u64 (IntKind.u64.wrap (bits .andNot .u64 a 3 + 4)) 2
theorem free_c (a : Int) (w0 : (Lit.int .u64 a).wf = true) (w : World) :
    Calls Try.prog 17 #[.int .u64 a] w fun e w' => e = .returned (.bool (freeB a)) ∧ w = w' := by
  go_enter Try.func17, Try.ntmps17
  go_wp2
  go_ret
  exact ⟨rfl, rfl⟩
theorem dead_c (a : Int) (w0 : (Lit.int .u64 a).wf = true) (w : World) :
    Calls Try.prog 18 #[.int .u64 a] w fun e w' => e = .returned (.bool (deadB a)) ∧ w = w' := by
  go_enter Try.func18, Try.ntmps18
  go_wp2
  go_ret
  exact ⟨rfl, rfl⟩
theorem lock_c (a : Int) (w0 : (Lit.int .u64 a).wf = true) (w : World) :
    Calls Try.prog 11 #[.int .u64 a] w fun e w' => e = .returned (.tuple #[.int .u64 (lockV a), .bool (freeB a)]) ∧ w = w' := by
  by_cases h : freeB a = true
  · have h1 : (bits .and .u64 a 3 == 0) = true := h
    have h2 : lockV a = bits .or .u64 a 1 := by unfold lockV; rw [if_pos h]
    rw [h, h2]; clear h h2
    go_enter Try.func11, Try.ntmps11
    go_wp2
    exact bodyPost_ret (v := .tuple #[.int .u64 (bits .or .u64 a 1), .bool true]) (by simp [results, Try.f11]) rfl ⟨rfl, rfl⟩
  · have h0 : freeB a = false := by simpa using h
    have h1 : (bits .and .u64 a 3 == 0) = false := h0
    have h2 : lockV a = 0 := by unfold lockV; rw [if_neg h]
    rw [h0, h2]; clear h h0 h2
    go_enter Try.func11, Try.ntmps11
    go_wp2
    exact bodyPost_ret (v := .tuple #[.int .u64 0, .bool false]) (by simp [results, Try.f11]) rfl ⟨rfl, rfl⟩
theorem rlock_c (a : Int) (w0 : (Lit.int .u64 a).wf = true) (w : World) :
    Calls Try.prog 15 #[.int .u64 a] w fun e w' => e = .returned (.tuple #[.int .u64 (lockV a), .bool (freeB a)]) ∧ w = w' := by
  by_cases h : freeB a = true
  · have h1 : (bits .and .u64 a 3 == 0) = true := h
    have h2 : lockV a = bits .or .u64 a 1 := by unfold lockV; rw [if_pos h]
    rw [h, h2]; clear h h2
    go_enter Try.func15, Try.ntmps15
    go_wp2
    exact bodyPost_ret (v := .tuple #[.int .u64 (bits .or .u64 a 1), .bool true]) (by simp [results, Try.f15]) rfl ⟨rfl, rfl⟩
  · have h0 : freeB a = false := by simpa using h
    have h1 : (bits .and .u64 a 3 == 0) = false := h0
    have h2 : lockV a = 0 := by unfold lockV; rw [if_neg h]
    rw [h0, h2]; clear h h0 h2
    go_enter Try.func15, Try.ntmps15
    go_wp2
    exact bodyPost_ret (v := .tuple #[.int .u64 0, .bool false]) (by simp [results, Try.f15]) rfl ⟨rfl, rfl⟩
theorem unlock_c (a : Int) (w0 : (Lit.int .u64 a).wf = true) (w : World) :
    Calls Try.prog 12 #[.int .u64 a] w fun e w' => e = .returned (.int .u64 (unlockV a)) ∧ w = w' := by
  go_enter Try.func12, Try.ntmps12
  go_wp2
  go_ret
  exact ⟨rfl, rfl⟩
theorem runlock_c (a : Int) (w0 : (Lit.int .u64 a).wf = true) (w : World) :
    Calls Try.prog 19 #[.int .u64 a] w fun e w' => e = .returned (.int .u64 (unlockV a)) ∧ w = w' := by
  go_enter Try.func19, Try.ntmps19
  go_wp2
  go_ret
  exact ⟨rfl, rfl⟩
theorem kill_c (a : Int) (w0 : (Lit.int .u64 a).wf = true) (w : World) :
    Calls Try.prog 13 #[.int .u64 a] w fun e w' => e = .returned (.int .u64 (killV a)) ∧ w = w' := by
  go_enter Try.func13, Try.ntmps13
  go_wp2
  go_ret
  exact ⟨rfl, rfl⟩
theorem rkill_c (a : Int) (w0 : (Lit.int .u64 a).wf = true) (w : World) :
    Calls Try.prog 20 #[.int .u64 a] w fun e w' => e = .returned (.int .u64 (killV a)) ∧ w = w' := by
  go_enter Try.func20, Try.ntmps20
  go_wp2
  go_ret
  exact ⟨rfl, rfl⟩
def refV (s g : Int) (l : Bool) : Int :=
  if (0 ≤ s ∧ s < 1024) ∧ 1 ≤ g ∧ g ≤ 1073741824 then
    if l = true then bits .or .i64 (bits .or .i64 (g * 65536) s) 281474976710656 else bits .or .i64 (g * 65536) s
  else 0
theorem ref_c (s g : Int) (l : Bool) (w0 : (Lit.int .i64 s).wf = true) (w1 : (Lit.int .i64 g).wf = true) (w : World) :
    Calls Try.prog 9 #[.int .i64 s, .int .i64 g, .bool l] w fun e w' => e = .returned (.int .i64 (refV s g l)) ∧ w = w' := by
  go_enter Try.func9, Try.ntmps9
  go_wp2
  all_goals go_ret
  all_goals refine ⟨?_, rfl⟩
  all_goals simp only [refV]
  all_goals first
    | (rw [if_neg (by omega)]; rfl)
    | (rw [if_pos (by omega), if_pos (by assumption)]; rfl)
    | (rw [if_pos (by omega), if_neg (by simp [*])]; rfl)
theorem rref_c (s g : Int) (l : Bool) (w0 : (Lit.int .i64 s).wf = true) (w1 : (Lit.int .i64 g).wf = true) (w : World) :
    Calls Try.prog 16 #[.int .i64 s, .int .i64 g, .bool l] w fun e w' => e = .returned (.int .i64 (refV s g l)) ∧ w = w' := by
  go_enter Try.func16, Try.ntmps16
  go_wp2
  all_goals go_ret
  all_goals refine ⟨?_, rfl⟩
  all_goals simp only [refV]
  all_goals first
    | (rw [if_neg (by omega)]; rfl)
    | (rw [if_pos (by omega), if_pos (by assumption)]; rfl)
    | (rw [if_pos (by omega), if_neg (by simp [*])]; rfl)
def slotV (r : Int) : Int := bits .and .i64 r 65535
def genV (r : Int) : Int := bits .and .i64 (r / 65536) 4294967295
def leafV (r : Int) : Bool := bits .and .i64 (r / 281474976710656) 1 == 1
def goodP (r : Int) : Prop := ¬ r = 0 ∧ refV (slotV r) (genV r) (leafV r) = r
theorem parts_good (r : Int) (hg : goodP r) (w0 : (Lit.int .i64 r).wf = true) (w : World) :
    Calls Try.prog 10 #[.int .i64 r] w fun e w' => e = .returned (.tuple #[.int .i64 (slotV r), .int .i64 (genV r), .bool (leafV r), .bool true]) ∧ w = w' := by
  have hz : ¬ r = 0 := hg.1
  go_enter Try.func10, Try.ntmps10
  go_wp2_with (go_at_call 9; refine (ref_c _ _ _ (wf_bits _ _ _ _) (wf_bits _ _ _ _) _).mono ?_; rintro e w' ⟨rfl, rfl⟩)
  · rename_i h
    rcases h with h | h
    · exact absurd (by simpa using h) hz
    · exact absurd hg.2 (by simpa [slotV, genV, leafV] using h)
  · exact bodyPost_ret (v := .tuple #[.int .i64 (slotV r), .int .i64 (genV r), .bool (leafV r), .bool true]) (by simp [results, Try.f10, slotV, genV, leafV]) rfl ⟨rfl, rfl⟩
theorem parts_bad (r : Int) (hg : ¬ goodP r) (w0 : (Lit.int .i64 r).wf = true) (w : World) :
    Calls Try.prog 10 #[.int .i64 r] w fun e w' => e = .returned (.tuple #[.int .i64 0, .int .i64 0, .bool false, .bool false]) ∧ w = w' := by
  go_enter Try.func10, Try.ntmps10
  go_wp2_with (go_at_call 9; refine (ref_c _ _ _ (wf_bits _ _ _ _) (wf_bits _ _ _ _) _).mono ?_; rintro e w' ⟨rfl, rfl⟩)
  · exact bodyPost_ret (v := .tuple #[.int .i64 0, .int .i64 0, .bool false, .bool false]) (by simp [results, Try.f10]) rfl ⟨rfl, rfl⟩
  · exact bodyPost_ret (v := .tuple #[.int .i64 0, .int .i64 0, .bool false, .bool false]) (by simp [results, Try.f10]) rfl ⟨rfl, rfl⟩
  · rename_i h1 h
    exact absurd ⟨h1, by simpa [slotV, genV, leafV] using h.2⟩ hg
theorem wraps_i64 (n : Int) (h₀ : 0 ≤ n) (h₁ : n < 2 ^ 63) : IntKind.i64.wrap n = n := by
  have h2 : ¬ n % 18446744073709551616 ≥ 9223372036854775808 := by omega
  simp [IntKind.wrap, IntKind.bits, IntKind.signed, h2]
  omega
theorem or_comm_i64 (x y : Int) : bits .or .i64 x y = bits .or .i64 y x := by
  simp only [bits, BitVec.or_comm]
theorem refV_eq (s g : Int) (l : Bool) : refV s g l = if (0 ≤ s ∧ s < 1024) ∧ 1 ≤ g ∧ g ≤ 1073741824 then g * 65536 + s + (if l = true then 281474976710656 else 0) else 0 := by
  unfold refV
  by_cases h : (0 ≤ s ∧ s < 1024) ∧ 1 ≤ g ∧ g ≤ 1073741824
  · rw [if_pos h, if_pos h]
    have h1 : bits .or .i64 (g * 65536) s = g * 65536 + s := bits_join .i64 63 (by decide) wraps_i64 16 _ _ (by omega) (by omega) (by omega) (by omega) (by omega) (by omega)
    rw [h1]
    cases l
    · simp
    · have h2 : bits .or .i64 281474976710656 (g * 65536 + s) = 281474976710656 + (g * 65536 + s) := bits_join .i64 63 (by decide) wraps_i64 48 _ _ (by omega) (by decide) (by decide) (by omega) (by omega) (by omega)
      simp only [if_true]
      rw [or_comm_i64, h2]
      omega
  · rw [if_neg h, if_neg h]
theorem good_range {r : Int} (h : goodP r) : 0 < r ∧ r < 562949953421312 := by
  obtain ⟨h0, h1⟩ := h
  rw [refV_eq] at h1
  split at h1
  · split at h1 <;> omega
  · omega
theorem leaf_eq {r : Int} (h0 : 0 < r) (h1 : r < 562949953421312) : (r / 281474976710656 == 1) = leafV r := by
  unfold leafV
  have hq : r / 281474976710656 = 0 ∨ r / 281474976710656 = 1 := by omega
  rcases hq with hq | hq <;> rw [hq] <;> decide +kernel
theorem rparts_good (r : Int) (hg : goodP r) (w0 : (Lit.int .i64 r).wf = true) (w : World) :
    Calls Try.prog 14 #[.int .i64 r] w fun e w' => e = .returned (.tuple #[.int .i64 (slotV r), .int .i64 (genV r), .bool (leafV r), .bool true]) ∧ w = w' := by
  obtain ⟨h0, h1⟩ := good_range hg
  go_enter Try.func14, Try.ntmps14
  go_wp2_with (go_at_call 16; refine (rref_c _ _ _ (wf_bits _ _ _ _) (wf_bits _ _ _ _) _).mono ?_; rintro e w' ⟨rfl, rfl⟩)
  · rename_i h
    rw [leaf_eq h0 h1] at h
    exact absurd hg.2 (by simpa [slotV, genV] using h)
  · exact bodyPost_ret (v := .tuple #[.int .i64 (slotV r), .int .i64 (genV r), .bool (leafV r), .bool true]) (by simp [results, Try.f14, slotV, genV, ← leaf_eq h0 h1]) rfl ⟨rfl, rfl⟩
theorem rparts_bad (r : Int) (hg : ¬ goodP r) (w0 : (Lit.int .i64 r).wf = true) (w : World) :
    Calls Try.prog 14 #[.int .i64 r] w fun e w' => e = .returned (.tuple #[.int .i64 0, .int .i64 0, .bool false, .bool false]) ∧ w = w' := by
  go_enter Try.func14, Try.ntmps14
  go_wp2_with (go_at_call 16; refine (rref_c _ _ _ (wf_bits _ _ _ _) (wf_bits _ _ _ _) _).mono ?_; rintro e w' ⟨rfl, rfl⟩)
  · exact bodyPost_ret (v := .tuple #[.int .i64 0, .int .i64 0, .bool false, .bool false]) (by simp [results, Try.f14]) rfl ⟨rfl, rfl⟩
  · exact bodyPost_ret (v := .tuple #[.int .i64 0, .int .i64 0, .bool false, .bool false]) (by simp [results, Try.f14]) rfl ⟨rfl, rfl⟩
  · rename_i h1 h2 h
    rw [leaf_eq h2.1 h2.2] at h
    exact absurd ⟨by omega, by simpa [slotV, genV] using h⟩ hg
  · exact bodyPost_ret (v := .tuple #[.int .i64 0, .int .i64 0, .bool false, .bool false]) (by simp [results, Try.f14]) rfl ⟨rfl, rfl⟩
set_option maxRecDepth 1000000 in
theorem mixed : Try.prog.follows .mixedOrders = true := by kernel_rfl
set_option maxRecDepth 1000000 in
theorem runs_c (w : World) : Calls Try.prog 3 #[] w fun e w' => e = .returned (.bool true) ∧ Below w.heap.size w w' :=
  Ev.calls_true (n := 400) mixed (by kernel_rfl) w
theorem free_eq (v : Int) : freeB v = (bits .and .u64 v 3 == 0) := rfl
theorem dead_eq (v : Int) : deadB v = (bits .and .u64 v 2 != 0) := rfl
theorem tells_good (s g : Int) (l : Bool) (r v : Int) (hg : goodP r) (w0 : (Lit.int .i64 s).wf = true) (w1 : (Lit.int .i64 g).wf = true) (w3 : (Lit.int .i64 r).wf = true) (w4 : (Lit.int .u64 v).wf = true) (w : World) :
    Calls Try.prog 4 #[.int .i64 s, .int .i64 g, .bool l, .int .i64 r, .int .u64 v] w fun e w' => e = .returned (.bool true) ∧ Below w.heap.size w w' := by
  go_enter Try.func4, Try.ntmps4
  go_wp2_with (first
    | (go_at_call 10; refine (parts_good _ hg w3 _).mono ?_; rintro e w' ⟨rfl, rfl⟩)
    | (go_at_call 14; refine (rparts_good _ hg w3 _).mono ?_; rintro e w' ⟨rfl, rfl⟩)
    | (go_at_call 11; refine (lock_c _ w4 _).mono ?_; rintro e w' ⟨rfl, rfl⟩)
    | (go_at_call 15; refine (rlock_c _ w4 _).mono ?_; rintro e w' ⟨rfl, rfl⟩)
    | (go_at_call 9; refine (ref_c _ _ _ w0 w1 _).mono ?_; rintro e w' ⟨rfl, rfl⟩)
    | (go_at_call 16; refine (rref_c _ _ _ w0 w1 _).mono ?_; rintro e w' ⟨rfl, rfl⟩)
    | (go_at_call 17; refine (free_c _ w4 _).mono ?_; rintro e w' ⟨rfl, rfl⟩)
    | (go_at_call 18; refine (dead_c _ w4 _).mono ?_; rintro e w' ⟨rfl, rfl⟩)
    | (go_at_call 12; refine (unlock_c _ w4 _).mono ?_; rintro e w' ⟨rfl, rfl⟩)
    | (go_at_call 19; refine (runlock_c _ w4 _).mono ?_; rintro e w' ⟨rfl, rfl⟩)
    | (go_at_call 13; refine (kill_c _ w4 _).mono ?_; rintro e w' ⟨rfl, rfl⟩)
    | (go_at_call 20; refine (rkill_c _ w4 _).mono ?_; rintro e w' ⟨rfl, rfl⟩)
    | (go_at_call 3; refine (runs_c _).mono ?_; rintro e w' ⟨rfl, hb⟩))
  all_goals go_ret
  all_goals exact ⟨rfl, hb⟩
theorem tells_bad (s g : Int) (l : Bool) (r v : Int) (hg : ¬ goodP r) (w0 : (Lit.int .i64 s).wf = true) (w1 : (Lit.int .i64 g).wf = true) (w3 : (Lit.int .i64 r).wf = true) (w4 : (Lit.int .u64 v).wf = true) (w : World) :
    Calls Try.prog 4 #[.int .i64 s, .int .i64 g, .bool l, .int .i64 r, .int .u64 v] w fun e w' => e = .returned (.bool true) ∧ Below w.heap.size w w' := by
  go_enter Try.func4, Try.ntmps4
  go_wp2_with (first
    | (go_at_call 10; refine (parts_bad _ hg w3 _).mono ?_; rintro e w' ⟨rfl, rfl⟩)
    | (go_at_call 14; refine (rparts_bad _ hg w3 _).mono ?_; rintro e w' ⟨rfl, rfl⟩)
    | (go_at_call 11; refine (lock_c _ w4 _).mono ?_; rintro e w' ⟨rfl, rfl⟩)
    | (go_at_call 15; refine (rlock_c _ w4 _).mono ?_; rintro e w' ⟨rfl, rfl⟩)
    | (go_at_call 9; refine (ref_c _ _ _ w0 w1 _).mono ?_; rintro e w' ⟨rfl, rfl⟩)
    | (go_at_call 16; refine (rref_c _ _ _ w0 w1 _).mono ?_; rintro e w' ⟨rfl, rfl⟩)
    | (go_at_call 17; refine (free_c _ w4 _).mono ?_; rintro e w' ⟨rfl, rfl⟩)
    | (go_at_call 18; refine (dead_c _ w4 _).mono ?_; rintro e w' ⟨rfl, rfl⟩)
    | (go_at_call 12; refine (unlock_c _ w4 _).mono ?_; rintro e w' ⟨rfl, rfl⟩)
    | (go_at_call 19; refine (runlock_c _ w4 _).mono ?_; rintro e w' ⟨rfl, rfl⟩)
    | (go_at_call 13; refine (kill_c _ w4 _).mono ?_; rintro e w' ⟨rfl, rfl⟩)
    | (go_at_call 20; refine (rkill_c _ w4 _).mono ?_; rintro e w' ⟨rfl, rfl⟩)
    | (go_at_call 3; refine (runs_c _).mono ?_; rintro e w' ⟨rfl, hb⟩))
  all_goals go_ret
  all_goals exact ⟨rfl, hb⟩
theorem tells (s g : Int) (l : Bool) (r v : Int) (w0 : (Lit.int .i64 s).wf = true) (w1 : (Lit.int .i64 g).wf = true) (w3 : (Lit.int .i64 r).wf = true) (w4 : (Lit.int .u64 v).wf = true) (w : World) :
    Calls Try.prog 4 #[.int .i64 s, .int .i64 g, .bool l, .int .i64 r, .int .u64 v] w fun e w' => e = .returned (.bool true) ∧ Below w.heap.size w w' := by
  by_cases hg : goodP r
  · exact tells_good s g l r v hg w0 w1 w3 w4 w
  · exact tells_bad s g l r v hg w0 w1 w3 w4 w
end Go.Proofs.Ytmmdalpamlfenaa
