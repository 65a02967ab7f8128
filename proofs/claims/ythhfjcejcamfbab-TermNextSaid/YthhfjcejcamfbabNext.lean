/-
  The law TermNext at whatever texts: walked, the closed law TermRuns reckoned by a verified evaluator; no condition.
-/
import Derived.Test.YthhfjcejcamfbabBase
import Derived.Test.YthhfjcejcamfbabEvU
import Derived.WalkLawsBesides
import Derived.Laws.Concat
import Derived.BigFrame
import Derived.BigRegion
import Derived.Laws.Small
import Derived.Laws.Cover1
import Derived.Laws.Slices
import Derived.Laws.Strings
namespace Go.Proofs.Ythhfjcejcamfbab
open Go.RowKit Go.WideShapes Go.ChangeShapes
set_option linter.all false
theorem bl_irr : ∀ x : List UInt8, Op.bytesLess x x = false
  | [] => rfl
  | a :: x => by simp [Op.bytesLess, bl_irr x]
theorem bl_snoc (z : UInt8) : ∀ x : List UInt8, Op.bytesLess x (x ++ [z]) = true
  | [] => rfl
  | a :: x => by simp [Op.bytesLess, bl_snoc z x]
theorem bl_next : ∀ s t : List UInt8, (Op.bytesLess t s || t == s) = true ∨ (Op.bytesLess (s ++ [0]) t || (s ++ [0]) == t) = true
  | [], [] => by left; rfl
  | [], [b] => by
    right
    show (Op.bytesLess [0] [b] || [0] == [b]) = true
    simp only [Op.bytesLess]
    by_cases h : b = 0
    · subst h; rfl
    · have : (0 : UInt8) < b := by
        have : b.toNat ≠ 0 := fun e => h (UInt8.toNat_inj.1 e)
        rw [UInt8.lt_iff_toNat_lt]; show 0 < b.toNat; omega
      simp [this]
  | [], b :: c :: t => by
    right
    show (Op.bytesLess [0] (b :: c :: t) || [0] == (b :: c :: t)) = true
    simp only [Op.bytesLess]
    by_cases h : b = 0
    · subst h; simp
    · have : (0 : UInt8) < b := by
        have : b.toNat ≠ 0 := fun e => h (UInt8.toNat_inj.1 e)
        rw [UInt8.lt_iff_toNat_lt]; show 0 < b.toNat; omega
      simp [this]
  | a :: s, [] => by left; rfl
  | a :: s, b :: t => by
    show (Op.bytesLess (b :: t) (a :: s) || (b :: t) == (a :: s)) = true ∨ (Op.bytesLess (a :: (s ++ [0])) (b :: t) || (a :: (s ++ [0])) == (b :: t)) = true
    simp only [Op.bytesLess]
    by_cases h : a = b
    · subst h
      have := bl_next s t
      simpa using this
    · rcases Nat.lt_or_ge a.toNat b.toNat with q | q
      · right
        have : a < b := UInt8.lt_iff_toNat_lt.2 q
        simp [this]
      · left
        have : b < a := UInt8.lt_iff_toNat_lt.2 (by
          have : a.toNat ≠ b.toNat := fun e => h (UInt8.toNat_inj.1 e)
          omega)
        simp [this]
@[go_sem ↓] theorem min60_hi {P : Program} {w : World} (ts : Array TypeId) (t : TypeId) (n : Int) (h : 60 < n) : (Builtin.min_ ts t #[.int .i64 n, .int .i64 60]).run P w = .ok (.int .i64 60) w := by
  rw [run_min_int2, if_pos h]
@[go_sem ↓] theorem min60_lo {P : Program} {w : World} (ts : Array TypeId) (t : TypeId) (n : Int) (h : ¬ 60 < n) : (Builtin.min_ ts t #[.int .i64 n, .int .i64 60]).run P w = .ok (.int .i64 n) w := by
  rw [run_min_int2, if_neg h]
theorem z_list (x : ByteArray) : (x ++ { data := #[0] } : ByteArray).toList = x.toList ++ [0] := by
  rw [ByteArray.toList_eq, ByteArray.toList_eq]; simp [ByteArray.data_append]
theorem z1 (x : ByteArray) : Op.bytesLess x.toList (x ++ { data := #[0] } : ByteArray).toList = true := by rw [z_list]; exact bl_snoc 0 _
theorem bl_asym : ∀ x y : List UInt8, Op.bytesLess x y = true → Op.bytesLess y x = false
  | [], [], h => by cases h
  | [], _ :: _, _ => rfl
  | _ :: _, [], h => by cases h
  | a :: x, b :: y, h => by
    simp only [Op.bytesLess, Bool.or_eq_true, decide_eq_true_eq, Bool.and_eq_true, beq_iff_eq] at h
    simp only [Op.bytesLess]
    rcases h with h | ⟨rfl, h⟩
    · have h1 : ¬ b < a := by rw [UInt8.lt_iff_toNat_lt] at h ⊢; omega
      have h2 : ¬ b = a := by rintro rfl; rw [UInt8.lt_iff_toNat_lt] at h; omega
      simp [h1, h2]
    · have := bl_asym x y h
      simp [this]
theorem z2 (x : ByteArray) : Op.bytesLess (x ++ { data := #[0] } : ByteArray).toList x.toList = false := bl_asym _ _ (z1 x)
theorem z3 (x : ByteArray) : ((x ++ { data := #[0] } : ByteArray).toList = x.toList) = False := by rw [z_list]; simp
theorem z4 (x y : ByteArray) (h1 : Op.bytesLess y.toList x.toList = false) (h2 : ¬ y.toList = x.toList) : Op.bytesLess (x ++ { data := #[0] } : ByteArray).toList y.toList = true ∨ (x ++ { data := #[0] } : ByteArray).toList = y.toList := by
  rcases bl_next x.toList y.toList with h | h
  · rw [h1] at h; simp at h; exact absurd h h2
  · rw [z_list]; simpa using h
theorem undrew {w w' : World} (hb : Below w.drew.heap.size w.drew w') : Below w.heap.size w w' := ⟨hb.os, hb.tape, hb.output, hb.size, hb.block⟩
set_option maxHeartbeats 16000000 in
theorem tnext_hh (s t : ByteArray) (runs : ∀ w, Calls Try.prog 8 #[] w fun e w' => e = .returned (.bool true) ∧ Below w.heap.size w w') (w : World) (hs : (60 : Int) < s.size) (hs2 : (60 : Int) ≤ s.size) (ht : (60 : Int) < t.size) (ht2 : (60 : Int) ≤ t.size) : Calls Try.prog 4 #[.string s, .string t] w fun e w' => e = .returned (.bool true) ∧ Below w.heap.size w w' := by
  go_enter Try.func4, Try.ntmps4
  go_wp2
  go_region
  go_wp2_with (first
    | (go_at_call 8; refine (runs _).mono ?_; rintro e w' ⟨rfl, hb⟩)
    | go_in)
  all_goals clear runs
  all_goals have a1 := z1 (s.extract 0 60)
  all_goals have a2 := z2 (s.extract 0 60)
  all_goals have a3 : ¬ (s.extract 0 60 ++ { data := #[0] } : ByteArray).toList = (s.extract 0 60).toList := fun h => by have := z3 (s.extract 0 60); rw [this] at h; exact h
  all_goals have a4 := z4 (s.extract 0 60) (t.extract 0 60)
  all_goals first
    | (exfalso; simp_all; done)
    | (go_ret; exact ⟨by simp_all, undrew hb⟩)
    | skip
set_option maxHeartbeats 16000000 in
theorem tnext_hl (s t : ByteArray) (runs : ∀ w, Calls Try.prog 8 #[] w fun e w' => e = .returned (.bool true) ∧ Below w.heap.size w w') (w : World) (hs : (60 : Int) < s.size) (hs2 : (60 : Int) ≤ s.size) (ht : ¬ (60 : Int) < t.size) (ht2 : (0 : Int) ≤ t.size) (ht3 : (t.size : Int) ≤ t.size) : Calls Try.prog 4 #[.string s, .string t] w fun e w' => e = .returned (.bool true) ∧ Below w.heap.size w w' := by
  go_enter Try.func4, Try.ntmps4
  go_wp2
  go_region
  go_wp2_with (first
    | (go_at_call 8; refine (runs _).mono ?_; rintro e w' ⟨rfl, hb⟩)
    | go_in)
  all_goals clear runs
  all_goals have a1 := z1 (s.extract 0 60)
  all_goals have a2 := z2 (s.extract 0 60)
  all_goals have a3 : ¬ (s.extract 0 60 ++ { data := #[0] } : ByteArray).toList = (s.extract 0 60).toList := fun h => by have := z3 (s.extract 0 60); rw [this] at h; exact h
  all_goals have a4 := z4 (s.extract 0 60) (t)
  all_goals first
    | (exfalso; simp_all; done)
    | (go_ret; exact ⟨by simp_all, undrew hb⟩)
    | skip
set_option maxHeartbeats 16000000 in
theorem tnext_lh (s t : ByteArray) (runs : ∀ w, Calls Try.prog 8 #[] w fun e w' => e = .returned (.bool true) ∧ Below w.heap.size w w') (w : World) (hs : ¬ (60 : Int) < s.size) (hs2 : (0 : Int) ≤ s.size) (hs3 : (s.size : Int) ≤ s.size) (ht : (60 : Int) < t.size) (ht2 : (60 : Int) ≤ t.size) : Calls Try.prog 4 #[.string s, .string t] w fun e w' => e = .returned (.bool true) ∧ Below w.heap.size w w' := by
  go_enter Try.func4, Try.ntmps4
  go_wp2
  go_region
  go_wp2_with (first
    | (go_at_call 8; refine (runs _).mono ?_; rintro e w' ⟨rfl, hb⟩)
    | go_in)
  all_goals clear runs
  all_goals have a1 := z1 (s)
  all_goals have a2 := z2 (s)
  all_goals have a3 : ¬ (s ++ { data := #[0] } : ByteArray).toList = (s).toList := fun h => by have := z3 (s); rw [this] at h; exact h
  all_goals have a4 := z4 (s) (t.extract 0 60)
  all_goals first
    | (exfalso; simp_all; done)
    | (go_ret; exact ⟨by simp_all, undrew hb⟩)
    | skip
set_option maxHeartbeats 16000000 in
theorem tnext_ll (s t : ByteArray) (runs : ∀ w, Calls Try.prog 8 #[] w fun e w' => e = .returned (.bool true) ∧ Below w.heap.size w w') (w : World) (hs : ¬ (60 : Int) < s.size) (hs2 : (0 : Int) ≤ s.size) (hs3 : (s.size : Int) ≤ s.size) (ht : ¬ (60 : Int) < t.size) (ht2 : (0 : Int) ≤ t.size) (ht3 : (t.size : Int) ≤ t.size) : Calls Try.prog 4 #[.string s, .string t] w fun e w' => e = .returned (.bool true) ∧ Below w.heap.size w w' := by
  go_enter Try.func4, Try.ntmps4
  go_wp2
  go_region
  go_wp2_with (first
    | (go_at_call 8; refine (runs _).mono ?_; rintro e w' ⟨rfl, hb⟩)
    | go_in)
  all_goals clear runs
  all_goals have a1 := z1 (s)
  all_goals have a2 := z2 (s)
  all_goals have a3 : ¬ (s ++ { data := #[0] } : ByteArray).toList = (s).toList := fun h => by have := z3 (s); rw [this] at h; exact h
  all_goals have a4 := z4 (s) (t)
  all_goals first
    | (exfalso; simp_all; done)
    | (go_ret; exact ⟨by simp_all, undrew hb⟩)
    | skip
theorem tnext_any (s t : ByteArray) (runs : ∀ w, Calls Try.prog 8 #[] w fun e w' => e = .returned (.bool true) ∧ Below w.heap.size w w') (w : World) : Calls Try.prog 4 #[.string s, .string t] w fun e w' => e = .returned (.bool true) ∧ Below w.heap.size w w' := by
  by_cases hs : (60 : Int) < s.size
  · by_cases ht : (60 : Int) < t.size
    · exact tnext_hh s t runs w hs (by omega) ht (by omega)
    · exact tnext_hl s t runs w hs (by omega) ht (by omega) (by omega)
  · by_cases ht : (60 : Int) < t.size
    · exact tnext_lh s t runs w hs (by omega) (by omega) ht (by omega)
    · exact tnext_ll s t runs w hs (by omega) (by omega) ht (by omega) (by omega)
set_option maxRecDepth 1000000 in
theorem termRuns_any (w : World) : Calls Try.prog 8 #[] w fun e w' => e = .returned (.bool true) ∧ Below w.heap.size w w' := by
  letI : Ev.Tok := ⟨fun _ => 0, fun _ => ByteArray.empty⟩
  letI : Ev.Sym := Ev.noSym
  have h : Ev.isTrue (@Ev.runF Ev.noSym Try.prog Ev.noOrc 40000 (.fn 8 [] Ev.st0)) = true := by kernel_rfl
  exact @Ev.calls_true_args _ Ev.noSym Try.prog _ (Ev.noSym_ok _) Ev.noOrc_ok mixed 40000 8 [] (by simp) (Ev.fast h) w
theorem next_any (s t : ByteArray) (w : World) : Calls Try.prog 4 #[.string s, .string t] w fun e w' => e = .returned (.bool true) ∧ Below w.heap.size w w' := tnext_any s t termRuns_any w
end Go.Proofs.Ythhfjcejcamfbab
