/-
  The law DropRefuses, and what a new drop is: walked, a part reckoned by a verified evaluator; no condition beyond a length that fits an int.
-/
import Derived.Test.YtjhkgjcgaeljkaaGreatBase
import Derived.Test.YtjhkgjcgaeljkaaGreatEvP
import Derived.Test.YtjhkgjcgaeljkaaGreatStr
import Derived.WalkLawsBesides
import Derived.Laws.Concat
import Derived.BigFrame
import Derived.BigRegion
import Derived.Laws.Small
import Derived.Laws.Cover1
import Derived.Laws.Slices
import Derived.Laws.Strings
import Derived.Laws.StructEq
namespace Go.Proofs.YtjhkgjcgaeljkaaGreat
open Go.RowKit Go.WideShapes Go.ChangeShapes
set_option linter.all false
set_option maxRecDepth 1000000
def uRows : List Ev.BRow := [⟨.lss, tk 1, num 1, .bool false⟩]
def uOracle : List Ev.ORow := [⟨32, [.float .f64 0], .bool true⟩, ⟨33, [.float .f64 0], .float .f64 1⟩]
theorem drop_ev : Ev.isNew (@Ev.runF (Ev.tabSym uRows [] []) Tryz.prog (Ev.orcOf uOracle [] []) 4000 (.fn 19 [.agg #[num 3, .float .f64 0, .string ⟨#[]⟩, num 0], num 65536, tk 1] Ev.st0)) = true := by kernel_rfl
section
variable [Ev.Tok] [Ev.Sym]
theorem c_lss {x y : Value} {a b : Int} {e : Bool} (h : decide (a < b) = e) (hx : ∀ γ, Ev.ren γ x = .int .i64 a) (hy : ∀ γ, Ev.ren γ y = .int .i64 b) : (Ev.BRow.mk .lss x y (.bool e)).ok Tryz.prog :=
  Ev.brow_int (k := .i64) (a := a) (b := b) rfl hx hy (u := .bool (decide (a < b))) rfl (fun γ => by rw [h]; rfl) trivial
theorem c_gtr {x y : Value} {a b : Int} {e : Bool} (h : decide (a > b) = e) (hx : ∀ γ, Ev.ren γ x = .int .i64 a) (hy : ∀ γ, Ev.ren γ y = .int .i64 b) : (Ev.BRow.mk .gtr x y (.bool e)).ok Tryz.prog :=
  Ev.brow_int (k := .i64) (a := a) (b := b) rfl hx hy (u := .bool (decide (a > b))) rfl (fun γ => by rw [h]; rfl) trivial
end
theorem dropNew_ok (s : ByteArray) (n : Int) (h : rightL s.data.toList = true) (h3 : 1 ≤ n) (w : World) : Calls Tryz.prog 19 #[.agg #[.int .i64 3, .string s, .string ⟨#[]⟩, .int .i64 0], .int .i64 65536, .int .i64 n] w fun e w' => ∃ p, e = .returned (.tuple #[.pointer (some p), .int .i64 0]) ∧ Below w.heap.size w w' := by
  letI : Ev.Tok := ⟨fun i => n, fun i => if i = 0 then s else keyB s⟩
  letI : Ev.Sym := Ev.noSym
  have hr : ∀ r ∈ uRows, r.ok Tryz.prog := by
    intro r hr
    simp only [uRows, List.mem_cons, List.not_mem_nil, or_false] at hr
    subst hr
    exact c_lss (a := n) (b := 1) (decide_eq_false (by omega)) (fun _ => rfl) (fun _ => rfl)
  have ho : ∀ r ∈ uOracle, r.ok Tryz.prog := by
    intro r hr
    simp only [uOracle, List.mem_cons, List.not_mem_nil, or_false] at hr
    rcases hr with rfl | rfl
    · exact ⟨trivial, fun γ w => (right_any s w).mono fun e w' ⟨he, hw⟩ => ⟨by rw [he, h]; rfl, by rw [hw]; exact Below.refl _ _⟩⟩
    · exact ⟨trivial, fun γ w => (key_any s w).mono fun e w' ⟨he, hw⟩ => ⟨by rw [he]; rfl, by rw [hw]; exact Below.refl _ _⟩⟩
  exact @Ev.calls_new _ (Ev.tabSym uRows [] []) Tryz.prog _ (Ev.tabSym_ok hr (by simp) (by simp)) (Ev.orcOf_ok ho (by simp) (by simp)) mixed 4000 19 [.agg #[num 3, .float .f64 0, .string ⟨#[]⟩, num 0], num 65536, tk 1] (by simp [Ev.Wf, Ev.WfL, num, tk]) drop_ev w
set_option maxHeartbeats 400000 in
theorem dropNew_no (k : Int) (t u : ByteArray) (v r n : Int) (w : World) (h : ¬ (k = 3 ∧ rightL t.data.toList = true ∧ v = 0 ∧ u.toList = [] ∧ 1 ≤ n)) : Calls Tryz.prog 19 #[.agg #[.int .i64 k, .string t, .string u, .int .i64 v], .int .i64 r, .int .i64 n] w fun e w' => e = .returned (.tuple #[.pointer none, .int .i64 1]) ∧ Below w.heap.size w w' := by
  go_enter Tryz.func19, Tryz.ntmps19
  have H : Hid (¬ (k = 3 ∧ rightL t.data.toList = true ∧ v = 0 ∧ u.toList = [] ∧ 1 ≤ n)) := h
  clear h
  cases hr : rightL t.data.toList
  all_goals have R := hr
  all_goals go_wp2_with (first
    | (go_at_call 32; refine (right_any _ _).mono ?_; rintro e w' ⟨rfl, rfl⟩; rw [R])
    | (go_at_call 33; fail)
    | go_in)
  all_goals first
    | (go_ret2; exact ⟨rfl, (Below.refl _ _).alloc (Nat.le_refl _) _⟩)
    | (exact (H.out ⟨by assumption, by assumption, by first | assumption | omega, by assumption, by omega⟩).elim)
theorem after {a b c : World} (h : Below a.heap.size a b) (k : Below b.heap.size b c) : Below a.heap.size a c := h.trans (k.mono h.size)
theorem extract_le (s : ByteArray) (k : Nat) : (s.extract 0 k).size ≤ k := by simp; omega
@[go_sem ↓] theorem min30_hi {P : Program} {w : World} (ts : Array TypeId) (t : TypeId) (n : Int) (h : 30 < n) : (Builtin.min_ ts t #[.int .i64 n, .int .i64 30]).run P w = .ok (.int .i64 30) w := by
  rw [run_min_int2, if_pos h]
@[go_sem ↓] theorem min30_lo {P : Program} {w : World} (ts : Array TypeId) (t : TypeId) (n : Int) (h : ¬ 30 < n) : (Builtin.min_ ts t #[.int .i64 n, .int .i64 30]).run P w = .ok (.int .i64 n) w := by
  rw [run_min_int2, if_neg h]
theorem toList_ne0 {x : ByteArray} (h : 1 ≤ x.size) : (x.toList == ([] : List UInt8)) = false := by
  rw [ByteArray.toList_eq]
  have : x.data.toList ≠ [] := by
    intro e
    have := len_list x
    rw [e] at this; simp at this; omega
  simpa using this
theorem u8_nz {a : UInt8} : ((a.toNat : Int) != 0) = (a != 0) := by
  by_cases h : a = 0
  · subst h; rfl
  · have h1 : a.toNat ≠ 0 := fun e => h (UInt8.toNat_inj.1 e)
    have h2 : (a != 0) = true := by simpa using h
    rw [h2]; simpa using h1
set_option maxHeartbeats 8000000 in
theorem dropR_big (s x : ByteArray) (v n kd : Int) (runs : ∀ w, Calls Tryz.prog 4 #[] w fun e w' => e = .returned (.bool true) ∧ Below w.heap.size w w') (w : World) (hs : (30 : Int) < s.size) (HX : Hid (x = s.extract 0 30)) (hx9 : x.size ≤ 9223372036854775807) (N : Hid (¬ (rightL x.data.toList = true ∧ 1 ≤ n))) (e1 : (x.toList == ([] : List UInt8)) = false) (h12 : ¬ ((x.size : Int) ≤ 12)) :
    Calls Tryz.prog 5 #[.string s, .int .i64 v, .int .i64 n, .int .i64 kd] w fun e w' => e = .returned (.bool true) ∧ Below w.heap.size w w' := by
  go_enter Tryz.func5, Tryz.ntmps5
  have hs2 : (30 : Int) ≤ s.size := by omega
  obtain ⟨q1, hq1, hq91⟩ := withinV_nat v 10 (by omega)
  have hw1 := within_any v 9 (by omega) (by omega)
  rw [show ((9 : Int) + 1) = ((10 : Nat) : Int) from by omega, hq1] at hw1
  obtain ⟨q2, hq2, hq92⟩ := withinV_nat kd 2 (by omega)
  have hw2 := within_any kd 1 (by omega) (by omega)
  rw [show ((1 : Int) + 1) = ((2 : Nat) : Int) from by omega, hq2] at hw2
  have F1 : Hid True := trivial
  have F2 : Hid True := trivial
  have F3 : Hid True := trivial
  clear hq1 hq2
  go_wp2_with (first
    | (go_at_call 19; clear F1; rw [← HX.out]; refine (dropNew_no _ _ _ _ _ _ _ (by rintro ⟨-, a, -, -, d⟩; exact N.out ⟨a, d⟩)).mono ?_; rintro e w1 ⟨rfl, hb1⟩)
    | go_in)
  all_goals first
    | (go_loop [11, 12] (fun o i => ∃ k : Nat, k ≤ x.size ∧ i = .int .i64 k ∧ o = .bool (false)) (fun _ i => x.size - (intOf i).toNat)
       case atStart => exact ⟨0, Nat.zero_le _, rfl, by first | rfl | (rw [decide_eq_false (by omega)]; rfl) | (rw [decide_eq_true (by omega)]; rfl) | rw [decide_eq_false (by omega)] | rw [decide_eq_true (by omega)]⟩
       case round =>
         obtain ⟨k, hk, rfl, rfl⟩ := hrel
         by_cases hl : k < x.size
         · go_wp2
           all_goals (go_round; (case rel => exact ⟨k + 1, by omega, by go_num, rfl⟩); (case measure => simp only [intOf]; omega))
         · have hk' : k = x.size := by omega
           subst hk'
           go_wp2_with (first
             | (go_at_call 24; clear F2; refine (hw1 _).mono ?_; rintro e w2 ⟨rfl, rfl⟩)
             | (go_at_call 24; refine (hw2 _).mono ?_; rintro e w2 ⟨rfl, rfl⟩)
             | (go_at_call 19; clear F3; refine (dropNew_no _ _ _ _ _ _ _ (by rintro ⟨-, -, h, -⟩; omega)).mono ?_; rintro e w3 ⟨rfl, hb3⟩)
             | (go_at_call 19; refine (dropNew_no _ _ _ _ _ _ _ (by rintro ⟨h, -⟩; omega)).mono ?_; rintro e w5 ⟨rfl, hb5⟩)
             | (go_at_call 4; refine (runs _).mono ?_; rintro e w4 ⟨rfl, hb4⟩)
             | go_in)
           go_ret; exact ⟨rfl, after (after (after hb1 hb3) hb5) hb4⟩)
set_option maxHeartbeats 8000000 in
theorem dropR_nil (s x : ByteArray) (v n kd : Int) (runs : ∀ w, Calls Tryz.prog 4 #[] w fun e w' => e = .returned (.bool true) ∧ Below w.heap.size w w') (w : World) (hs : ¬ (30 : Int) < s.size) (HX : Hid (x = s)) (hx9 : x.size ≤ 9223372036854775807) (N : Hid (¬ (rightL x.data.toList = true ∧ 1 ≤ n))) (e1 : (x.toList == ([] : List UInt8)) = true) (h12 : ((x.size : Int) ≤ 12)) :
    Calls Tryz.prog 5 #[.string s, .int .i64 v, .int .i64 n, .int .i64 kd] w fun e w' => e = .returned (.bool true) ∧ Below w.heap.size w w' := by
  go_enter Tryz.func5, Tryz.ntmps5
  have hs2 : (0 : Int) ≤ s.size := by omega
  have hs3 : (s.size : Int) ≤ s.size := by omega
  obtain ⟨q1, hq1, hq91⟩ := withinV_nat v 10 (by omega)
  have hw1 := within_any v 9 (by omega) (by omega)
  rw [show ((9 : Int) + 1) = ((10 : Nat) : Int) from by omega, hq1] at hw1
  obtain ⟨q2, hq2, hq92⟩ := withinV_nat kd 2 (by omega)
  have hw2 := within_any kd 1 (by omega) (by omega)
  rw [show ((1 : Int) + 1) = ((2 : Nat) : Int) from by omega, hq2] at hw2
  have F1 : Hid True := trivial
  have F2 : Hid True := trivial
  have F3 : Hid True := trivial
  clear hq1 hq2
  go_wp2_with (first
    | (go_at_call 19; clear F1; rw [← HX.out]; refine (dropNew_no _ _ _ _ _ _ _ (by rintro ⟨-, a, -, -, d⟩; exact N.out ⟨a, d⟩)).mono ?_; rintro e w1 ⟨rfl, hb1⟩)
    | go_in)
  all_goals first
    | (go_loop [11, 12] (fun o i => ∃ k : Nat, k ≤ x.size ∧ i = .int .i64 k ∧ o = .bool (false)) (fun _ i => x.size - (intOf i).toNat)
       case atStart => exact ⟨0, Nat.zero_le _, rfl, by first | rfl | (rw [decide_eq_false (by omega)]; rfl) | (rw [decide_eq_true (by omega)]; rfl) | rw [decide_eq_false (by omega)] | rw [decide_eq_true (by omega)]⟩
       case round =>
         obtain ⟨k, hk, rfl, rfl⟩ := hrel
         by_cases hl : k < x.size
         · go_wp2
           all_goals (go_round; (case rel => exact ⟨k + 1, by omega, by go_num, rfl⟩); (case measure => simp only [intOf]; omega))
         · have hk' : k = x.size := by omega
           subst hk'
           go_wp2_with (first
             | (go_at_call 24; clear F2; refine (hw1 _).mono ?_; rintro e w2 ⟨rfl, rfl⟩)
             | (go_at_call 24; refine (hw2 _).mono ?_; rintro e w2 ⟨rfl, rfl⟩)
             | (go_at_call 19; clear F3; refine (dropNew_no _ _ _ _ _ _ _ (by rintro ⟨-, -, h, -⟩; omega)).mono ?_; rintro e w3 ⟨rfl, hb3⟩)
             | (go_at_call 19; refine (dropNew_no _ _ _ _ _ _ _ (by rintro ⟨h, -⟩; omega)).mono ?_; rintro e w5 ⟨rfl, hb5⟩)
             | (go_at_call 4; refine (runs _).mono ?_; rintro e w4 ⟨rfl, hb4⟩)
             | go_in)
           go_ret; exact ⟨rfl, after (after (after hb1 hb3) hb5) hb4⟩)
set_option maxHeartbeats 8000000 in
theorem dropR_long (s x : ByteArray) (v n kd : Int) (runs : ∀ w, Calls Tryz.prog 4 #[] w fun e w' => e = .returned (.bool true) ∧ Below w.heap.size w w') (w : World) (hs : ¬ (30 : Int) < s.size) (HX : Hid (x = s)) (hx9 : x.size ≤ 9223372036854775807) (N : Hid (¬ (rightL x.data.toList = true ∧ 1 ≤ n))) (e1 : (x.toList == ([] : List UInt8)) = false) (h12 : ¬ ((x.size : Int) ≤ 12)) :
    Calls Tryz.prog 5 #[.string s, .int .i64 v, .int .i64 n, .int .i64 kd] w fun e w' => e = .returned (.bool true) ∧ Below w.heap.size w w' := by
  go_enter Tryz.func5, Tryz.ntmps5
  have hs2 : (0 : Int) ≤ s.size := by omega
  have hs3 : (s.size : Int) ≤ s.size := by omega
  obtain ⟨q1, hq1, hq91⟩ := withinV_nat v 10 (by omega)
  have hw1 := within_any v 9 (by omega) (by omega)
  rw [show ((9 : Int) + 1) = ((10 : Nat) : Int) from by omega, hq1] at hw1
  obtain ⟨q2, hq2, hq92⟩ := withinV_nat kd 2 (by omega)
  have hw2 := within_any kd 1 (by omega) (by omega)
  rw [show ((1 : Int) + 1) = ((2 : Nat) : Int) from by omega, hq2] at hw2
  have F1 : Hid True := trivial
  have F2 : Hid True := trivial
  have F3 : Hid True := trivial
  clear hq1 hq2
  go_wp2_with (first
    | (go_at_call 19; clear F1; rw [← HX.out]; refine (dropNew_no _ _ _ _ _ _ _ (by rintro ⟨-, a, -, -, d⟩; exact N.out ⟨a, d⟩)).mono ?_; rintro e w1 ⟨rfl, hb1⟩)
    | go_in)
  all_goals first
    | (go_loop [11, 12] (fun o i => ∃ k : Nat, k ≤ x.size ∧ i = .int .i64 k ∧ o = .bool (false)) (fun _ i => x.size - (intOf i).toNat)
       case atStart => exact ⟨0, Nat.zero_le _, rfl, by first | rfl | (rw [decide_eq_false (by omega)]; rfl) | (rw [decide_eq_true (by omega)]; rfl) | rw [decide_eq_false (by omega)] | rw [decide_eq_true (by omega)]⟩
       case round =>
         obtain ⟨k, hk, rfl, rfl⟩ := hrel
         by_cases hl : k < x.size
         · go_wp2
           all_goals (go_round; (case rel => exact ⟨k + 1, by omega, by go_num, rfl⟩); (case measure => simp only [intOf]; omega))
         · have hk' : k = x.size := by omega
           subst hk'
           go_wp2_with (first
             | (go_at_call 24; clear F2; refine (hw1 _).mono ?_; rintro e w2 ⟨rfl, rfl⟩)
             | (go_at_call 24; refine (hw2 _).mono ?_; rintro e w2 ⟨rfl, rfl⟩)
             | (go_at_call 19; clear F3; refine (dropNew_no _ _ _ _ _ _ _ (by rintro ⟨-, -, h, -⟩; omega)).mono ?_; rintro e w3 ⟨rfl, hb3⟩)
             | (go_at_call 19; refine (dropNew_no _ _ _ _ _ _ _ (by rintro ⟨h, -⟩; omega)).mono ?_; rintro e w5 ⟨rfl, hb5⟩)
             | (go_at_call 4; refine (runs _).mono ?_; rintro e w4 ⟨rfl, hb4⟩)
             | go_in)
           go_ret; exact ⟨rfl, after (after (after hb1 hb3) hb5) hb4⟩)
set_option maxHeartbeats 8000000 in
theorem dropR_mid (s x : ByteArray) (v n kd : Int) (runs : ∀ w, Calls Tryz.prog 4 #[] w fun e w' => e = .returned (.bool true) ∧ Below w.heap.size w w') (w : World) (hs : ¬ (30 : Int) < s.size) (HX : Hid (x = s)) (hx9 : x.size ≤ 9223372036854775807) (N : Hid (¬ (rightL x.data.toList = true ∧ 1 ≤ n))) (e1 : (x.toList == ([] : List UInt8)) = false) (h12 : ((x.size : Int) ≤ 12)) (e1' : 1 ≤ x.size) :
    Calls Tryz.prog 5 #[.string s, .int .i64 v, .int .i64 n, .int .i64 kd] w fun e w' => e = .returned (.bool true) ∧ Below w.heap.size w w' := by
  go_enter Tryz.func5, Tryz.ntmps5
  have hs2 : (0 : Int) ≤ s.size := by omega
  have hs3 : (s.size : Int) ≤ s.size := by omega
  obtain ⟨q1, hq1, hq91⟩ := withinV_nat v 10 (by omega)
  have hw1 := within_any v 9 (by omega) (by omega)
  rw [show ((9 : Int) + 1) = ((10 : Nat) : Int) from by omega, hq1] at hw1
  obtain ⟨q2, hq2, hq92⟩ := withinV_nat kd 2 (by omega)
  have hw2 := within_any kd 1 (by omega) (by omega)
  rw [show ((1 : Int) + 1) = ((2 : Nat) : Int) from by omega, hq2] at hw2
  have F1 : Hid True := trivial
  have F2 : Hid True := trivial
  have F3 : Hid True := trivial
  clear hq1 hq2
  go_wp2_with (first
    | (go_at_call 19; clear F1; rw [← HX.out]; refine (dropNew_no _ _ _ _ _ _ _ (by rintro ⟨-, a, -, -, d⟩; exact N.out ⟨a, d⟩)).mono ?_; rintro e w1 ⟨rfl, hb1⟩)
    | go_in)
  all_goals first
    | (go_loop [11, 12] (fun o i => ∃ k : Nat, k ≤ x.size ∧ i = .int .i64 k ∧ o = .bool (nz (x.data.toList.take k))) (fun _ i => x.size - (intOf i).toNat)
       case atStart => exact ⟨0, Nat.zero_le _, rfl, by first | rfl | (rw [decide_eq_false (by omega)]; rfl) | (rw [decide_eq_true (by omega)]; rfl) | rw [decide_eq_false (by omega)] | rw [decide_eq_true (by omega)]⟩
       case round =>
         obtain ⟨k, hk, rfl, rfl⟩ := hrel
         by_cases hl : k < x.size
         · have hnt := nz_take x k hl
           cases hn : nz (x.data.toList.take k) with
           | true =>
             rw [hn, Bool.true_and] at hnt
             cases hq2 : ((x[k]'hl) != 0) with
             | true =>
               rw [hq2] at hnt
               have h58 : (((x[k]'hl).toNat : Int) != 0) = true := by rw [u8_nz]; exact hq2
               go_wp2
               all_goals (go_round; (case rel => exact ⟨k + 1, by omega, by go_num, by rw [hnt]⟩); (case measure => simp only [intOf]; omega))
             | false =>
               rw [hq2] at hnt
               have h58 : (((x[k]'hl).toNat : Int) != 0) = false := by rw [u8_nz]; exact hq2
               go_wp2
               all_goals (go_round; (case rel => exact ⟨k + 1, by omega, by go_num, by rw [hnt]⟩); (case measure => simp only [intOf]; omega))
           | false =>
             rw [hn, Bool.false_and] at hnt
             go_wp2
             all_goals (go_round; (case rel => exact ⟨k + 1, by omega, by go_num, by rw [hnt]⟩); (case measure => simp only [intOf]; omega))
         · have hk' : k = x.size := by omega
           subst hk'
           cases hnz : nz x.data.toList with
           | true =>
             exfalso
             refine N.out ⟨?_, by omega⟩
             unfold rightL
             rw [len_list, hnz, decide_eq_true (by have := e1' ; omega : 1 ≤ x.size), decide_eq_true (by omega : x.size ≤ 12)]; rfl
           | false =>
             rw [show nz (x.data.toList.take x.size) = false from by rw [List.take_of_length_le (by rw [len_list]; omega)]; exact hnz]
             go_wp2_with (first
               | (go_at_call 24; clear F2; refine (hw1 _).mono ?_; rintro e w2 ⟨rfl, rfl⟩)
               | (go_at_call 24; refine (hw2 _).mono ?_; rintro e w2 ⟨rfl, rfl⟩)
               | (go_at_call 19; clear F3; refine (dropNew_no _ _ _ _ _ _ _ (by rintro ⟨-, -, h, -⟩; omega)).mono ?_; rintro e w3 ⟨rfl, hb3⟩)
               | (go_at_call 19; refine (dropNew_no _ _ _ _ _ _ _ (by rintro ⟨h, -⟩; omega)).mono ?_; rintro e w5 ⟨rfl, hb5⟩)
               | (go_at_call 4; refine (runs _).mono ?_; rintro e w4 ⟨rfl, hb4⟩)
               | go_in)
             go_ret; exact ⟨rfl, after (after (after hb1 hb3) hb5) hb4⟩)
    | (go_loop [11, 12] (fun o i => ∃ k : Nat, k ≤ x.size ∧ i = .int .i64 k ∧ o = .bool (false)) (fun _ i => x.size - (intOf i).toNat)
       case atStart => exact ⟨0, Nat.zero_le _, rfl, by first | rfl | (rw [decide_eq_false (by omega)]; rfl) | (rw [decide_eq_true (by omega)]; rfl) | rw [decide_eq_false (by omega)] | rw [decide_eq_true (by omega)]⟩
       case round =>
         obtain ⟨k, hk, rfl, rfl⟩ := hrel
         by_cases hl : k < x.size
         · go_wp2
           all_goals (go_round; (case rel => exact ⟨k + 1, by omega, by go_num, rfl⟩); (case measure => simp only [intOf]; omega))
         · have hk' : k = x.size := by omega
           subst hk'
           go_wp2_with (first
             | (go_at_call 24; clear F2; refine (hw1 _).mono ?_; rintro e w2 ⟨rfl, rfl⟩)
             | (go_at_call 24; refine (hw2 _).mono ?_; rintro e w2 ⟨rfl, rfl⟩)
             | (go_at_call 19; clear F3; refine (dropNew_no _ _ _ _ _ _ _ (by rintro ⟨-, -, h, -⟩; omega)).mono ?_; rintro e w3 ⟨rfl, hb3⟩)
             | (go_at_call 19; refine (dropNew_no _ _ _ _ _ _ _ (by rintro ⟨h, -⟩; omega)).mono ?_; rintro e w5 ⟨rfl, hb5⟩)
             | (go_at_call 4; refine (runs _).mono ?_; rintro e w4 ⟨rfl, hb4⟩)
             | go_in)
           go_ret; exact ⟨rfl, after (after (after hb1 hb3) hb5) hb4⟩)
set_option maxHeartbeats 8000000 in
theorem dropR_yes (s x : ByteArray) (v n kd : Int) (runs : ∀ w, Calls Tryz.prog 4 #[] w fun e w' => e = .returned (.bool true) ∧ Below w.heap.size w w') (w : World) (hs : ¬ (30 : Int) < s.size) (HX : Hid (x = s)) (hx9 : x.size ≤ 9223372036854775807) (R : Hid (rightL x.data.toList = true)) (n1 : 1 ≤ n) (e1 : (x.toList == ([] : List UInt8)) = false) (h12 : ((x.size : Int) ≤ 12)) (hnz : Hid (nz x.data.toList = true)) :
    Calls Tryz.prog 5 #[.string s, .int .i64 v, .int .i64 n, .int .i64 kd] w fun e w' => e = .returned (.bool true) ∧ Below w.heap.size w w' := by
  go_enter Tryz.func5, Tryz.ntmps5
  have hs2 : (0 : Int) ≤ s.size := by omega
  have hs3 : (s.size : Int) ≤ s.size := by omega
  obtain ⟨q1, hq1, hq91⟩ := withinV_nat v 10 (by omega)
  have hw1 := within_any v 9 (by omega) (by omega)
  rw [show ((9 : Int) + 1) = ((10 : Nat) : Int) from by omega, hq1] at hw1
  obtain ⟨q2, hq2, hq92⟩ := withinV_nat kd 2 (by omega)
  have hw2 := within_any kd 1 (by omega) (by omega)
  rw [show ((1 : Int) + 1) = ((2 : Nat) : Int) from by omega, hq2] at hw2
  have F1 : Hid True := trivial
  have F2 : Hid True := trivial
  have F3 : Hid True := trivial
  clear hq1 hq2
  go_wp2_with (first
    | (go_at_call 19; clear F1; rw [← HX.out]; refine (dropNew_ok x n R.out n1 _).mono ?_; rintro e w1 ⟨p, rfl, hb1⟩)
    | go_in)
  all_goals first
    | (go_loop [11, 12] (fun o i => ∃ k : Nat, k ≤ x.size ∧ i = .int .i64 k ∧ o = .bool (nz (x.data.toList.take k))) (fun _ i => x.size - (intOf i).toNat)
       case atStart => exact ⟨0, Nat.zero_le _, rfl, by first | rfl | (rw [decide_eq_false (by omega)]; rfl) | (rw [decide_eq_true (by omega)]; rfl) | rw [decide_eq_false (by omega)] | rw [decide_eq_true (by omega)]⟩
       case round =>
         obtain ⟨k, hk, rfl, rfl⟩ := hrel
         by_cases hl : k < x.size
         · have hnt := nz_take x k hl
           cases hn : nz (x.data.toList.take k) with
           | true =>
             rw [hn, Bool.true_and] at hnt
             cases hq2 : ((x[k]'hl) != 0) with
             | true =>
               rw [hq2] at hnt
               have h58 : (((x[k]'hl).toNat : Int) != 0) = true := by rw [u8_nz]; exact hq2
               go_wp2
               all_goals (go_round; (case rel => exact ⟨k + 1, by omega, by go_num, by rw [hnt]⟩); (case measure => simp only [intOf]; omega))
             | false =>
               rw [hq2] at hnt
               have h58 : (((x[k]'hl).toNat : Int) != 0) = false := by rw [u8_nz]; exact hq2
               go_wp2
               all_goals (go_round; (case rel => exact ⟨k + 1, by omega, by go_num, by rw [hnt]⟩); (case measure => simp only [intOf]; omega))
           | false =>
             rw [hn, Bool.false_and] at hnt
             go_wp2
             all_goals (go_round; (case rel => exact ⟨k + 1, by omega, by go_num, by rw [hnt]⟩); (case measure => simp only [intOf]; omega))
         · have hk' : k = x.size := by omega
           subst hk'
           rw [show nz (x.data.toList.take x.size) = true from by rw [List.take_of_length_le (by rw [len_list]; omega)]; exact hnz.out]
           go_wp2_with (first
             | (go_at_call 24; clear F2; refine (hw1 _).mono ?_; rintro e w2 ⟨rfl, rfl⟩)
             | (go_at_call 24; refine (hw2 _).mono ?_; rintro e w2 ⟨rfl, rfl⟩)
             | (go_at_call 19; clear F3; refine (dropNew_no _ _ _ _ _ _ _ (by rintro ⟨-, -, h, -⟩; omega)).mono ?_; rintro e w3 ⟨rfl, hb3⟩)
             | (go_at_call 19; refine (dropNew_no _ _ _ _ _ _ _ (by rintro ⟨h, -⟩; omega)).mono ?_; rintro e w5 ⟨rfl, hb5⟩)
             | (go_at_call 4; refine (runs _).mono ?_; rintro e w4 ⟨rfl, hb4⟩)
             | go_in)
           go_ret; exact ⟨rfl, after (after (after hb1 hb3) hb5) hb4⟩)

theorem dropR_any (s : ByteArray) (v n kd : Int) (runs : ∀ w, Calls Tryz.prog 4 #[] w fun e w' => e = .returned (.bool true) ∧ Below w.heap.size w w') (h9 : s.size ≤ 9223372036854775807) (w : World) :
    Calls Tryz.prog 5 #[.string s, .int .i64 v, .int .i64 n, .int .i64 kd] w fun e w' => e = .returned (.bool true) ∧ Below w.heap.size w w' := by
  have big : ∀ x : ByteArray, 12 < x.size → rightL x.data.toList = false := by
    intro x hx
    unfold rightL; rw [len_list, decide_eq_false (by omega : ¬ x.size ≤ 12)]; cases decide (1 ≤ x.size) <;> rfl
  by_cases hs : (30 : Int) < s.size
  · have hz : (s.extract 0 30).size = 30 := by simp; omega
    exact dropR_big s (s.extract 0 30) v n kd runs w hs rfl (by omega) (fun h => by rw [big _ (by omega)] at h; cases h.1) (toList_ne0 (by omega)) (by omega)
  · by_cases h12 : (s.size : Int) ≤ 12
    · by_cases h0 : s.size = 0
      · have hn : s = ⟨#[]⟩ := ByteArray.ext (Array.eq_empty_of_size_eq_zero h0)
        subst hn
        exact dropR_nil ⟨#[]⟩ ⟨#[]⟩ v n kd runs w hs rfl h9 (fun h => by cases h.1) (by rw [ByteArray.toList_eq]; rfl) h12
      · have e1 := toList_ne0 (x := s) (by omega)
        by_cases hc : rightL s.data.toList = true ∧ 1 ≤ n
        · have hnz : nz s.data.toList = true := by have := hc.1; simp only [rightL, Bool.and_eq_true] at this; exact this.2
          exact dropR_yes s s v n kd runs w hs rfl h9 hc.1 hc.2 e1 h12 hnz
        · exact dropR_mid s s v n kd runs w hs rfl h9 hc e1 h12 (by omega)
    · exact dropR_long s s v n kd runs w hs rfl h9 (fun h => by rw [big s (by omega)] at h; cases h.1) (toList_ne0 (by omega)) h12
end Go.Proofs.YtjhkgjcgaeljkaaGreat
