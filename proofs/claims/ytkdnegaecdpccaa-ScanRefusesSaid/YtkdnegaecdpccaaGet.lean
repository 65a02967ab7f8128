/-
  What a new get and a new scan are, and the law GetRefuses: walked, a part reckoned by a verified evaluator; no condition beyond a length that fits an int.
-/
import Derived.Test.YtkdnegaecdpccaaTick
namespace Go.Proofs.Ytkdnegaecdpccaa
open Go.RowKit Go.WideShapes Go.ChangeShapes
set_option linter.all false
set_option maxRecDepth 1000000
def gOracle : List Ev.ORow := [⟨25, [.float .f64 0], .bool true⟩, ⟨26, [.float .f64 0], .float .f64 1⟩]
theorem get_ev : Ev.isNew (@Ev.runF (Ev.tabSym [] [] []) Try.prog (Ev.orcOf gOracle [] []) 4000 (.fn 8 [.agg #[num 1, .float .f64 0, .string ⟨#[]⟩, num 0], num 65536] Ev.st0)) = true := by kernel_rfl
theorem getNew_ok (s : ByteArray) (h : rightL s.data.toList = true) (w : World) : Calls Try.prog 8 #[.agg #[.int .i64 1, .string s, .string ⟨#[]⟩, .int .i64 0], .int .i64 65536] w fun e w' => ∃ p, e = .returned (.tuple #[.pointer (some p), .int .i64 0]) ∧ Below w.heap.size w w' := by
  letI : Ev.Tok := ⟨fun _ => 0, fun i => if i = 0 then s else keyB s⟩
  letI : Ev.Sym := Ev.noSym
  have hr : ∀ r ∈ gOracle, r.ok Try.prog := by
    intro r hr
    simp only [gOracle, List.mem_cons, List.not_mem_nil, or_false] at hr
    rcases hr with rfl | rfl
    · exact ⟨trivial, fun γ w => (right_any s w).mono fun e w' ⟨he, hw⟩ => ⟨by rw [he, h]; rfl, by rw [hw]; exact Below.refl _ _⟩⟩
    · exact ⟨trivial, fun γ w => (key_any s w).mono fun e w' ⟨he, hw⟩ => ⟨by rw [he]; rfl, by rw [hw]; exact Below.refl _ _⟩⟩
  exact @Ev.calls_new _ (Ev.tabSym [] [] []) Try.prog _ (Ev.tabSym_ok (by simp) (by simp) (by simp)) (Ev.orcOf_ok hr (by simp) (by simp)) mixed 4000 8 [.agg #[num 1, .float .f64 0, .string ⟨#[]⟩, num 0], num 65536] (by simp [Ev.Wf, Ev.WfL, num]) get_ev w
theorem bne0 {v : Int} (h : (v != 0) = false) : v = 0 := by simpa using h
set_option maxHeartbeats 400000 in
theorem getNew_no (k : Int) (t u : ByteArray) (v r : Int) (w : World) (h : ¬ (k = 1 ∧ rightL t.data.toList = true ∧ u.toList = [] ∧ v = 0)) : Calls Try.prog 8 #[.agg #[.int .i64 k, .string t, .string u, .int .i64 v], .int .i64 r] w fun e w' => e = .returned (.tuple #[.pointer none, .int .i64 1]) ∧ Below w.heap.size w w' := by
  go_enter Try.func8, Try.ntmps8
  have H : Hid (¬ (k = 1 ∧ rightL t.data.toList = true ∧ u.toList = [] ∧ v = 0)) := h
  clear h
  cases hr : rightL t.data.toList
  all_goals have R := hr
  all_goals go_wp2_with (first
    | (go_at_call 25; refine (right_any _ _).mono ?_; rintro e w' ⟨rfl, rfl⟩; rw [R])
    | (go_at_call 26; fail)
    | go_in)
  all_goals first
    | (go_ret2; exact ⟨rfl, (Below.refl _ _).alloc (Nat.le_refl _) _⟩)
    | (exact (H.out ⟨by assumption, by assumption, by assumption, by first | assumption | exact bne0 (by assumption)⟩).elim)
def sRows : List Ev.BRow := [⟨.lss, tk 0, num 1, .bool false⟩, ⟨.gtr, tk 0, num 16, .bool false⟩, ⟨.gtr, tk 1, num 13, .bool false⟩, ⟨.gtr, tk 2, num 13, .bool false⟩]
@[reducible] noncomputable def sSym : Ev.Sym := ⟨Ev.lookB sRows, Ev.lookU [], Ev.lookC [], fun v => match v with | .float _ i => some (tk (i + 1)) | _ => none⟩
theorem scan_ev : Ev.isNew (@Ev.runF sSym Try.prog (Ev.orcOf [] [] []) 4000 (.fn 12 [.agg #[num 4, .float .f64 0, .float .f64 1, tk 0], num 65536] Ev.st0)) = true := by kernel_rfl
theorem scanNew_ok (s t : ByteArray) (v : Int) (h1 : 1 ≤ v) (h2 : v ≤ 16) (h3 : s.size ≤ 13) (h4 : t.size ≤ 13) (w : World) : Calls Try.prog 12 #[.agg #[.int .i64 4, .string s, .string t, .int .i64 v], .int .i64 65536] w fun e w' => ∃ p, e = .returned (.tuple #[.pointer (some p), .int .i64 0]) ∧ Below w.heap.size w w' := by
  letI : Ev.Tok := ⟨fun i => match i with | 0 => v | j + 1 => ((if j = 0 then s else t).size : Nat), fun i => if i = 0 then s else t⟩
  letI : Ev.Sym := Ev.noSym
  have hr : ∀ r ∈ sRows, r.ok Try.prog := by
    intro r hr
    simp only [sRows, List.mem_cons, List.not_mem_nil, or_false] at hr
    rcases hr with rfl | rfl | rfl | rfl
    · exact c_lss (a := v) (b := 1) (decide_eq_false (by omega)) (fun _ => rfl) (fun _ => rfl)
    · exact c_gtr (a := v) (b := 16) (decide_eq_false (by omega)) (fun _ => rfl) (fun _ => rfl)
    · exact c_gtr (a := (s.size : Nat)) (b := 13) (decide_eq_false (by omega)) (fun _ => rfl) (fun _ => rfl)
    · exact c_gtr (a := (t.size : Nat)) (b := 13) (decide_eq_false (by omega)) (fun _ => rfl) (fun _ => rfl)
  have hs : @Ev.SymOk _ sSym Try.prog := @Ev.SymOk.mk _ sSym Try.prog (Ev.lookB_ok _ hr) (Ev.lookU_ok _ (by simp)) (Ev.lookC_ok _ (by simp)) (by
    intro k i v' h
    injection h with h
    subst h
    exact ⟨trivial, fun γ => rfl⟩)
  exact @Ev.calls_new _ sSym Try.prog _ hs (Ev.orcOf_ok (by simp) (by simp) (by simp)) mixed 4000 12 [.agg #[num 4, .float .f64 0, .float .f64 1, tk 0], num 65536] (by simp [Ev.Wf, Ev.WfL, num, tk]) scan_ev w
set_option maxHeartbeats 400000 in
theorem scanNew_no (k : Int) (t u : ByteArray) (v r : Int) (w : World) (h : ¬ (k = 4 ∧ 1 ≤ v ∧ v ≤ 16 ∧ t.size ≤ 13 ∧ u.size ≤ 13)) : Calls Try.prog 12 #[.agg #[.int .i64 k, .string t, .string u, .int .i64 v], .int .i64 r] w fun e w' => e = .returned (.tuple #[.pointer none, .int .i64 1]) ∧ Below w.heap.size w w' := by
  go_enter Try.func12, Try.ntmps12
  have H : Hid (¬ (k = 4 ∧ 1 ≤ v ∧ v ≤ 16 ∧ t.size ≤ 13 ∧ u.size ≤ 13)) := h
  clear h
  go_wp2
  all_goals first
    | (go_ret2; exact ⟨rfl, (Below.refl _ _).alloc (Nat.le_refl _) _⟩)
    | (exact (H.out ⟨by assumption, by omega, by omega, by omega, by omega⟩).elim)
theorem extract_le (s : ByteArray) (k : Nat) : (s.extract 0 k).size ≤ k := by simp; omega
@[go_sem ↓] theorem min9_hi {P : Program} {w : World} (ts : Array TypeId) (t : TypeId) (n : Int) (h : 9 < n) : (Builtin.min_ ts t #[.int .i64 n, .int .i64 9]).run P w = .ok (.int .i64 9) w := by
  rw [run_min_int2, if_pos h]
@[go_sem ↓] theorem min9_lo {P : Program} {w : World} (ts : Array TypeId) (t : TypeId) (n : Int) (h : ¬ 9 < n) : (Builtin.min_ ts t #[.int .i64 n, .int .i64 9]).run P w = .ok (.int .i64 n) w := by
  rw [run_min_int2, if_neg h]
@[go_sem ↓] theorem min30_hi {P : Program} {w : World} (ts : Array TypeId) (t : TypeId) (n : Int) (h : 30 < n) : (Builtin.min_ ts t #[.int .i64 n, .int .i64 30]).run P w = .ok (.int .i64 30) w := by
  rw [run_min_int2, if_pos h]
@[go_sem ↓] theorem min30_lo {P : Program} {w : World} (ts : Array TypeId) (t : TypeId) (n : Int) (h : ¬ 30 < n) : (Builtin.min_ ts t #[.int .i64 n, .int .i64 30]).run P w = .ok (.int .i64 n) w := by
  rw [run_min_int2, if_neg h]
theorem x_ne (x : ByteArray) : ¬ (({ data := #[120] } : ByteArray) ++ x).toList = [] := by
  rw [ByteArray.toList_eq, ByteArray.data_append]; simp
set_option maxHeartbeats 4000000 in
theorem getR_111 (s t : ByteArray) (v kd : Int) (runs : ∀ w, Calls Try.prog 11 #[] w fun e w' => e = .returned (.bool true) ∧ Below w.heap.size w w') (w : World) (hs9 : s.size ≤ 9223372036854775807) (hs : (30 : Int) < s.size) (ht : (9 : Int) < t.size) (hr : rightL (s.extract 0 30).data.toList = true) :
    Calls Try.prog 4 #[.string s, .string t, .int .i64 v, .int .i64 kd] w fun e w' => e = .returned (.bool true) ∧ Below w.heap.size w w' := by
  go_enter Try.func4, Try.ntmps4
  have hs2 : (30 : Int) ≤ s.size := by omega
  have ht2 : (9 : Int) ≤ t.size := by omega
  have hcat : ¬ 9223372036854775807 < 1 + (t.extract 0 9).size := by have := extract_le t 9; omega
  have hcat2 : ¬ 9223372036854775807 < 1 + min 9 t.size := by omega
  have HR : Hid (rightL (s.extract 0 30).data.toList = true) := hr
  clear hr
  have hxs : (s.extract 0 30).size ≤ 9223372036854775807 := by have := extract_le s 30; omega
  obtain ⟨m, hm, hm9⟩ := withinV_nat v 100 (by omega)
  obtain ⟨q, hq, hq9⟩ := withinV_nat kd 4 (by omega)
  have hw1 := within_any v 99 (by omega) (by omega)
  rw [show ((99 : Int) + 1) = ((100 : Nat) : Int) from by omega, hm] at hw1
  have hw2 := within_any kd 3 (by omega) (by omega)
  rw [show ((3 : Int) + 1) = ((4 : Nat) : Int) from by omega, hq] at hw2
  have F1 : Hid True := trivial
  have F2 : Hid True := trivial
  have F3 : Hid True := trivial
  have W1 : Hid True := trivial
  clear hm hq
  go_wp2_with (first
    | (go_at_call 8; clear F1; refine (getNew_ok _ HR.out _).mono ?_; rintro e w1 ⟨p, rfl, hb1⟩)
    | (go_at_call 9; refine (rightTerm_any _ (by assumption) _).mono ?_; rintro e w' ⟨rfl, rfl⟩; rw [HR.out])
    | (go_at_call 10; clear W1; refine (hw1 _).mono ?_; rintro e w' ⟨rfl, rfl⟩)
    | (go_at_call 10; refine (hw2 _).mono ?_; rintro e w' ⟨rfl, rfl⟩)
    | (go_at_call 8; clear F2; refine (getNew_no _ _ _ _ _ _ (by rintro ⟨-, -, -, h⟩; omega)).mono ?_; rintro e w2 ⟨rfl, hb2⟩)
    | (go_at_call 8; clear F3; refine (getNew_no _ _ _ _ _ _ (by rintro ⟨-, -, h, -⟩; exact x_ne _ h)).mono ?_; rintro e w3 ⟨rfl, hb3⟩)
    | (go_at_call 8; refine (getNew_no _ _ _ _ _ _ (by rintro ⟨h, -⟩; omega)).mono ?_; rintro e w4 ⟨rfl, hb4⟩)
    | (go_at_call 11; refine (runs _).mono ?_; rintro e w5 ⟨rfl, hb5⟩)
    | go_in)
  all_goals first
    | (go_ret; exact ⟨rfl, after (after (after (after hb1 hb2) hb3) hb4) hb5⟩)
set_option maxHeartbeats 4000000 in
theorem getR_110 (s t : ByteArray) (v kd : Int) (runs : ∀ w, Calls Try.prog 11 #[] w fun e w' => e = .returned (.bool true) ∧ Below w.heap.size w w') (w : World) (hs9 : s.size ≤ 9223372036854775807) (hs : (30 : Int) < s.size) (ht : (9 : Int) < t.size) (hr : rightL (s.extract 0 30).data.toList = false) :
    Calls Try.prog 4 #[.string s, .string t, .int .i64 v, .int .i64 kd] w fun e w' => e = .returned (.bool true) ∧ Below w.heap.size w w' := by
  go_enter Try.func4, Try.ntmps4
  have hs2 : (30 : Int) ≤ s.size := by omega
  have ht2 : (9 : Int) ≤ t.size := by omega
  have hcat : ¬ 9223372036854775807 < 1 + (t.extract 0 9).size := by have := extract_le t 9; omega
  have hcat2 : ¬ 9223372036854775807 < 1 + min 9 t.size := by omega
  have HR : Hid (rightL (s.extract 0 30).data.toList = false) := hr
  clear hr
  have hxs : (s.extract 0 30).size ≤ 9223372036854775807 := by have := extract_le s 30; omega
  obtain ⟨m, hm, hm9⟩ := withinV_nat v 100 (by omega)
  obtain ⟨q, hq, hq9⟩ := withinV_nat kd 4 (by omega)
  have hw1 := within_any v 99 (by omega) (by omega)
  rw [show ((99 : Int) + 1) = ((100 : Nat) : Int) from by omega, hm] at hw1
  have hw2 := within_any kd 3 (by omega) (by omega)
  rw [show ((3 : Int) + 1) = ((4 : Nat) : Int) from by omega, hq] at hw2
  have F1 : Hid True := trivial
  have F2 : Hid True := trivial
  have F3 : Hid True := trivial
  have W1 : Hid True := trivial
  clear hm hq
  go_wp2_with (first
    | (go_at_call 8; clear F1; refine (getNew_no _ _ _ _ _ _ (by rintro ⟨-, h, -⟩; rw [HR.out] at h; cases h)).mono ?_; rintro e w1 ⟨rfl, hb1⟩)
    | (go_at_call 9; refine (rightTerm_any _ (by assumption) _).mono ?_; rintro e w' ⟨rfl, rfl⟩; rw [HR.out])
    | (go_at_call 10; clear W1; refine (hw1 _).mono ?_; rintro e w' ⟨rfl, rfl⟩)
    | (go_at_call 10; refine (hw2 _).mono ?_; rintro e w' ⟨rfl, rfl⟩)
    | (go_at_call 8; clear F2; refine (getNew_no _ _ _ _ _ _ (by rintro ⟨-, -, -, h⟩; omega)).mono ?_; rintro e w2 ⟨rfl, hb2⟩)
    | (go_at_call 8; clear F3; refine (getNew_no _ _ _ _ _ _ (by rintro ⟨-, -, h, -⟩; exact x_ne _ h)).mono ?_; rintro e w3 ⟨rfl, hb3⟩)
    | (go_at_call 8; refine (getNew_no _ _ _ _ _ _ (by rintro ⟨h, -⟩; omega)).mono ?_; rintro e w4 ⟨rfl, hb4⟩)
    | (go_at_call 11; refine (runs _).mono ?_; rintro e w5 ⟨rfl, hb5⟩)
    | go_in)
  all_goals first
    | (go_ret; exact ⟨rfl, after (after (after (after hb1 hb2) hb3) hb4) hb5⟩)
set_option maxHeartbeats 4000000 in
theorem getR_101 (s t : ByteArray) (v kd : Int) (runs : ∀ w, Calls Try.prog 11 #[] w fun e w' => e = .returned (.bool true) ∧ Below w.heap.size w w') (w : World) (hs9 : s.size ≤ 9223372036854775807) (hs : (30 : Int) < s.size) (ht : ¬ (9 : Int) < t.size) (hr : rightL (s.extract 0 30).data.toList = true) :
    Calls Try.prog 4 #[.string s, .string t, .int .i64 v, .int .i64 kd] w fun e w' => e = .returned (.bool true) ∧ Below w.heap.size w w' := by
  go_enter Try.func4, Try.ntmps4
  have hs2 : (30 : Int) ≤ s.size := by omega
  have ht2 : (0 : Int) ≤ t.size := by omega
  have ht3 : (t.size : Int) ≤ t.size := by omega
  have hcat : ¬ 9223372036854775807 < 1 + t.size := by omega
  have HR : Hid (rightL (s.extract 0 30).data.toList = true) := hr
  clear hr
  have hxs : (s.extract 0 30).size ≤ 9223372036854775807 := by have := extract_le s 30; omega
  obtain ⟨m, hm, hm9⟩ := withinV_nat v 100 (by omega)
  obtain ⟨q, hq, hq9⟩ := withinV_nat kd 4 (by omega)
  have hw1 := within_any v 99 (by omega) (by omega)
  rw [show ((99 : Int) + 1) = ((100 : Nat) : Int) from by omega, hm] at hw1
  have hw2 := within_any kd 3 (by omega) (by omega)
  rw [show ((3 : Int) + 1) = ((4 : Nat) : Int) from by omega, hq] at hw2
  have F1 : Hid True := trivial
  have F2 : Hid True := trivial
  have F3 : Hid True := trivial
  have W1 : Hid True := trivial
  clear hm hq
  go_wp2_with (first
    | (go_at_call 8; clear F1; refine (getNew_ok _ HR.out _).mono ?_; rintro e w1 ⟨p, rfl, hb1⟩)
    | (go_at_call 9; refine (rightTerm_any _ (by assumption) _).mono ?_; rintro e w' ⟨rfl, rfl⟩; rw [HR.out])
    | (go_at_call 10; clear W1; refine (hw1 _).mono ?_; rintro e w' ⟨rfl, rfl⟩)
    | (go_at_call 10; refine (hw2 _).mono ?_; rintro e w' ⟨rfl, rfl⟩)
    | (go_at_call 8; clear F2; refine (getNew_no _ _ _ _ _ _ (by rintro ⟨-, -, -, h⟩; omega)).mono ?_; rintro e w2 ⟨rfl, hb2⟩)
    | (go_at_call 8; clear F3; refine (getNew_no _ _ _ _ _ _ (by rintro ⟨-, -, h, -⟩; exact x_ne _ h)).mono ?_; rintro e w3 ⟨rfl, hb3⟩)
    | (go_at_call 8; refine (getNew_no _ _ _ _ _ _ (by rintro ⟨h, -⟩; omega)).mono ?_; rintro e w4 ⟨rfl, hb4⟩)
    | (go_at_call 11; refine (runs _).mono ?_; rintro e w5 ⟨rfl, hb5⟩)
    | go_in)
  all_goals first
    | (go_ret; exact ⟨rfl, after (after (after (after hb1 hb2) hb3) hb4) hb5⟩)
set_option maxHeartbeats 4000000 in
theorem getR_100 (s t : ByteArray) (v kd : Int) (runs : ∀ w, Calls Try.prog 11 #[] w fun e w' => e = .returned (.bool true) ∧ Below w.heap.size w w') (w : World) (hs9 : s.size ≤ 9223372036854775807) (hs : (30 : Int) < s.size) (ht : ¬ (9 : Int) < t.size) (hr : rightL (s.extract 0 30).data.toList = false) :
    Calls Try.prog 4 #[.string s, .string t, .int .i64 v, .int .i64 kd] w fun e w' => e = .returned (.bool true) ∧ Below w.heap.size w w' := by
  go_enter Try.func4, Try.ntmps4
  have hs2 : (30 : Int) ≤ s.size := by omega
  have ht2 : (0 : Int) ≤ t.size := by omega
  have ht3 : (t.size : Int) ≤ t.size := by omega
  have hcat : ¬ 9223372036854775807 < 1 + t.size := by omega
  have HR : Hid (rightL (s.extract 0 30).data.toList = false) := hr
  clear hr
  have hxs : (s.extract 0 30).size ≤ 9223372036854775807 := by have := extract_le s 30; omega
  obtain ⟨m, hm, hm9⟩ := withinV_nat v 100 (by omega)
  obtain ⟨q, hq, hq9⟩ := withinV_nat kd 4 (by omega)
  have hw1 := within_any v 99 (by omega) (by omega)
  rw [show ((99 : Int) + 1) = ((100 : Nat) : Int) from by omega, hm] at hw1
  have hw2 := within_any kd 3 (by omega) (by omega)
  rw [show ((3 : Int) + 1) = ((4 : Nat) : Int) from by omega, hq] at hw2
  have F1 : Hid True := trivial
  have F2 : Hid True := trivial
  have F3 : Hid True := trivial
  have W1 : Hid True := trivial
  clear hm hq
  go_wp2_with (first
    | (go_at_call 8; clear F1; refine (getNew_no _ _ _ _ _ _ (by rintro ⟨-, h, -⟩; rw [HR.out] at h; cases h)).mono ?_; rintro e w1 ⟨rfl, hb1⟩)
    | (go_at_call 9; refine (rightTerm_any _ (by assumption) _).mono ?_; rintro e w' ⟨rfl, rfl⟩; rw [HR.out])
    | (go_at_call 10; clear W1; refine (hw1 _).mono ?_; rintro e w' ⟨rfl, rfl⟩)
    | (go_at_call 10; refine (hw2 _).mono ?_; rintro e w' ⟨rfl, rfl⟩)
    | (go_at_call 8; clear F2; refine (getNew_no _ _ _ _ _ _ (by rintro ⟨-, -, -, h⟩; omega)).mono ?_; rintro e w2 ⟨rfl, hb2⟩)
    | (go_at_call 8; clear F3; refine (getNew_no _ _ _ _ _ _ (by rintro ⟨-, -, h, -⟩; exact x_ne _ h)).mono ?_; rintro e w3 ⟨rfl, hb3⟩)
    | (go_at_call 8; refine (getNew_no _ _ _ _ _ _ (by rintro ⟨h, -⟩; omega)).mono ?_; rintro e w4 ⟨rfl, hb4⟩)
    | (go_at_call 11; refine (runs _).mono ?_; rintro e w5 ⟨rfl, hb5⟩)
    | go_in)
  all_goals first
    | (go_ret; exact ⟨rfl, after (after (after (after hb1 hb2) hb3) hb4) hb5⟩)
set_option maxHeartbeats 4000000 in
theorem getR_011 (s t : ByteArray) (v kd : Int) (runs : ∀ w, Calls Try.prog 11 #[] w fun e w' => e = .returned (.bool true) ∧ Below w.heap.size w w') (w : World) (hs9 : s.size ≤ 9223372036854775807) (hs : ¬ (30 : Int) < s.size) (ht : (9 : Int) < t.size) (hr : rightL s.data.toList = true) :
    Calls Try.prog 4 #[.string s, .string t, .int .i64 v, .int .i64 kd] w fun e w' => e = .returned (.bool true) ∧ Below w.heap.size w w' := by
  go_enter Try.func4, Try.ntmps4
  have ht2 : (9 : Int) ≤ t.size := by omega
  have hcat : ¬ 9223372036854775807 < 1 + (t.extract 0 9).size := by have := extract_le t 9; omega
  have hcat2 : ¬ 9223372036854775807 < 1 + min 9 t.size := by omega
  have HR : Hid (rightL s.data.toList = true) := hr
  clear hr
  have hxs : s.size ≤ 9223372036854775807 := by exact hs9
  obtain ⟨m, hm, hm9⟩ := withinV_nat v 100 (by omega)
  obtain ⟨q, hq, hq9⟩ := withinV_nat kd 4 (by omega)
  have hw1 := within_any v 99 (by omega) (by omega)
  rw [show ((99 : Int) + 1) = ((100 : Nat) : Int) from by omega, hm] at hw1
  have hw2 := within_any kd 3 (by omega) (by omega)
  rw [show ((3 : Int) + 1) = ((4 : Nat) : Int) from by omega, hq] at hw2
  have F1 : Hid True := trivial
  have F2 : Hid True := trivial
  have F3 : Hid True := trivial
  have W1 : Hid True := trivial
  clear hm hq
  go_wp2_with (first
    | (go_at_call 8; clear F1; refine (getNew_ok _ HR.out _).mono ?_; rintro e w1 ⟨p, rfl, hb1⟩)
    | (go_at_call 9; refine (rightTerm_any _ (by assumption) _).mono ?_; rintro e w' ⟨rfl, rfl⟩; rw [HR.out])
    | (go_at_call 10; clear W1; refine (hw1 _).mono ?_; rintro e w' ⟨rfl, rfl⟩)
    | (go_at_call 10; refine (hw2 _).mono ?_; rintro e w' ⟨rfl, rfl⟩)
    | (go_at_call 8; clear F2; refine (getNew_no _ _ _ _ _ _ (by rintro ⟨-, -, -, h⟩; omega)).mono ?_; rintro e w2 ⟨rfl, hb2⟩)
    | (go_at_call 8; clear F3; refine (getNew_no _ _ _ _ _ _ (by rintro ⟨-, -, h, -⟩; exact x_ne _ h)).mono ?_; rintro e w3 ⟨rfl, hb3⟩)
    | (go_at_call 8; refine (getNew_no _ _ _ _ _ _ (by rintro ⟨h, -⟩; omega)).mono ?_; rintro e w4 ⟨rfl, hb4⟩)
    | (go_at_call 11; refine (runs _).mono ?_; rintro e w5 ⟨rfl, hb5⟩)
    | go_in)
  all_goals first
    | (go_ret; exact ⟨rfl, after (after (after (after hb1 hb2) hb3) hb4) hb5⟩)
set_option maxHeartbeats 4000000 in
theorem getR_010 (s t : ByteArray) (v kd : Int) (runs : ∀ w, Calls Try.prog 11 #[] w fun e w' => e = .returned (.bool true) ∧ Below w.heap.size w w') (w : World) (hs9 : s.size ≤ 9223372036854775807) (hs : ¬ (30 : Int) < s.size) (ht : (9 : Int) < t.size) (hr : rightL s.data.toList = false) :
    Calls Try.prog 4 #[.string s, .string t, .int .i64 v, .int .i64 kd] w fun e w' => e = .returned (.bool true) ∧ Below w.heap.size w w' := by
  go_enter Try.func4, Try.ntmps4
  have ht2 : (9 : Int) ≤ t.size := by omega
  have hcat : ¬ 9223372036854775807 < 1 + (t.extract 0 9).size := by have := extract_le t 9; omega
  have hcat2 : ¬ 9223372036854775807 < 1 + min 9 t.size := by omega
  have HR : Hid (rightL s.data.toList = false) := hr
  clear hr
  have hxs : s.size ≤ 9223372036854775807 := by exact hs9
  obtain ⟨m, hm, hm9⟩ := withinV_nat v 100 (by omega)
  obtain ⟨q, hq, hq9⟩ := withinV_nat kd 4 (by omega)
  have hw1 := within_any v 99 (by omega) (by omega)
  rw [show ((99 : Int) + 1) = ((100 : Nat) : Int) from by omega, hm] at hw1
  have hw2 := within_any kd 3 (by omega) (by omega)
  rw [show ((3 : Int) + 1) = ((4 : Nat) : Int) from by omega, hq] at hw2
  have F1 : Hid True := trivial
  have F2 : Hid True := trivial
  have F3 : Hid True := trivial
  have W1 : Hid True := trivial
  clear hm hq
  go_wp2_with (first
    | (go_at_call 8; clear F1; refine (getNew_no _ _ _ _ _ _ (by rintro ⟨-, h, -⟩; rw [HR.out] at h; cases h)).mono ?_; rintro e w1 ⟨rfl, hb1⟩)
    | (go_at_call 9; refine (rightTerm_any _ (by assumption) _).mono ?_; rintro e w' ⟨rfl, rfl⟩; rw [HR.out])
    | (go_at_call 10; clear W1; refine (hw1 _).mono ?_; rintro e w' ⟨rfl, rfl⟩)
    | (go_at_call 10; refine (hw2 _).mono ?_; rintro e w' ⟨rfl, rfl⟩)
    | (go_at_call 8; clear F2; refine (getNew_no _ _ _ _ _ _ (by rintro ⟨-, -, -, h⟩; omega)).mono ?_; rintro e w2 ⟨rfl, hb2⟩)
    | (go_at_call 8; clear F3; refine (getNew_no _ _ _ _ _ _ (by rintro ⟨-, -, h, -⟩; exact x_ne _ h)).mono ?_; rintro e w3 ⟨rfl, hb3⟩)
    | (go_at_call 8; refine (getNew_no _ _ _ _ _ _ (by rintro ⟨h, -⟩; omega)).mono ?_; rintro e w4 ⟨rfl, hb4⟩)
    | (go_at_call 11; refine (runs _).mono ?_; rintro e w5 ⟨rfl, hb5⟩)
    | go_in)
  all_goals first
    | (go_ret; exact ⟨rfl, after (after (after (after hb1 hb2) hb3) hb4) hb5⟩)
set_option maxHeartbeats 4000000 in
theorem getR_001 (s t : ByteArray) (v kd : Int) (runs : ∀ w, Calls Try.prog 11 #[] w fun e w' => e = .returned (.bool true) ∧ Below w.heap.size w w') (w : World) (hs9 : s.size ≤ 9223372036854775807) (hs : ¬ (30 : Int) < s.size) (ht : ¬ (9 : Int) < t.size) (hr : rightL s.data.toList = true) :
    Calls Try.prog 4 #[.string s, .string t, .int .i64 v, .int .i64 kd] w fun e w' => e = .returned (.bool true) ∧ Below w.heap.size w w' := by
  go_enter Try.func4, Try.ntmps4
  have ht2 : (0 : Int) ≤ t.size := by omega
  have ht3 : (t.size : Int) ≤ t.size := by omega
  have hcat : ¬ 9223372036854775807 < 1 + t.size := by omega
  have HR : Hid (rightL s.data.toList = true) := hr
  clear hr
  have hxs : s.size ≤ 9223372036854775807 := by exact hs9
  obtain ⟨m, hm, hm9⟩ := withinV_nat v 100 (by omega)
  obtain ⟨q, hq, hq9⟩ := withinV_nat kd 4 (by omega)
  have hw1 := within_any v 99 (by omega) (by omega)
  rw [show ((99 : Int) + 1) = ((100 : Nat) : Int) from by omega, hm] at hw1
  have hw2 := within_any kd 3 (by omega) (by omega)
  rw [show ((3 : Int) + 1) = ((4 : Nat) : Int) from by omega, hq] at hw2
  have F1 : Hid True := trivial
  have F2 : Hid True := trivial
  have F3 : Hid True := trivial
  have W1 : Hid True := trivial
  clear hm hq
  go_wp2_with (first
    | (go_at_call 8; clear F1; refine (getNew_ok _ HR.out _).mono ?_; rintro e w1 ⟨p, rfl, hb1⟩)
    | (go_at_call 9; refine (rightTerm_any _ (by assumption) _).mono ?_; rintro e w' ⟨rfl, rfl⟩; rw [HR.out])
    | (go_at_call 10; clear W1; refine (hw1 _).mono ?_; rintro e w' ⟨rfl, rfl⟩)
    | (go_at_call 10; refine (hw2 _).mono ?_; rintro e w' ⟨rfl, rfl⟩)
    | (go_at_call 8; clear F2; refine (getNew_no _ _ _ _ _ _ (by rintro ⟨-, -, -, h⟩; omega)).mono ?_; rintro e w2 ⟨rfl, hb2⟩)
    | (go_at_call 8; clear F3; refine (getNew_no _ _ _ _ _ _ (by rintro ⟨-, -, h, -⟩; exact x_ne _ h)).mono ?_; rintro e w3 ⟨rfl, hb3⟩)
    | (go_at_call 8; refine (getNew_no _ _ _ _ _ _ (by rintro ⟨h, -⟩; omega)).mono ?_; rintro e w4 ⟨rfl, hb4⟩)
    | (go_at_call 11; refine (runs _).mono ?_; rintro e w5 ⟨rfl, hb5⟩)
    | go_in)
  all_goals first
    | (go_ret; exact ⟨rfl, after (after (after (after hb1 hb2) hb3) hb4) hb5⟩)
set_option maxHeartbeats 4000000 in
theorem getR_000 (s t : ByteArray) (v kd : Int) (runs : ∀ w, Calls Try.prog 11 #[] w fun e w' => e = .returned (.bool true) ∧ Below w.heap.size w w') (w : World) (hs9 : s.size ≤ 9223372036854775807) (hs : ¬ (30 : Int) < s.size) (ht : ¬ (9 : Int) < t.size) (hr : rightL s.data.toList = false) :
    Calls Try.prog 4 #[.string s, .string t, .int .i64 v, .int .i64 kd] w fun e w' => e = .returned (.bool true) ∧ Below w.heap.size w w' := by
  go_enter Try.func4, Try.ntmps4
  have ht2 : (0 : Int) ≤ t.size := by omega
  have ht3 : (t.size : Int) ≤ t.size := by omega
  have hcat : ¬ 9223372036854775807 < 1 + t.size := by omega
  have HR : Hid (rightL s.data.toList = false) := hr
  clear hr
  have hxs : s.size ≤ 9223372036854775807 := by exact hs9
  obtain ⟨m, hm, hm9⟩ := withinV_nat v 100 (by omega)
  obtain ⟨q, hq, hq9⟩ := withinV_nat kd 4 (by omega)
  have hw1 := within_any v 99 (by omega) (by omega)
  rw [show ((99 : Int) + 1) = ((100 : Nat) : Int) from by omega, hm] at hw1
  have hw2 := within_any kd 3 (by omega) (by omega)
  rw [show ((3 : Int) + 1) = ((4 : Nat) : Int) from by omega, hq] at hw2
  have F1 : Hid True := trivial
  have F2 : Hid True := trivial
  have F3 : Hid True := trivial
  have W1 : Hid True := trivial
  clear hm hq
  go_wp2_with (first
    | (go_at_call 8; clear F1; refine (getNew_no _ _ _ _ _ _ (by rintro ⟨-, h, -⟩; rw [HR.out] at h; cases h)).mono ?_; rintro e w1 ⟨rfl, hb1⟩)
    | (go_at_call 9; refine (rightTerm_any _ (by assumption) _).mono ?_; rintro e w' ⟨rfl, rfl⟩; rw [HR.out])
    | (go_at_call 10; clear W1; refine (hw1 _).mono ?_; rintro e w' ⟨rfl, rfl⟩)
    | (go_at_call 10; refine (hw2 _).mono ?_; rintro e w' ⟨rfl, rfl⟩)
    | (go_at_call 8; clear F2; refine (getNew_no _ _ _ _ _ _ (by rintro ⟨-, -, -, h⟩; omega)).mono ?_; rintro e w2 ⟨rfl, hb2⟩)
    | (go_at_call 8; clear F3; refine (getNew_no _ _ _ _ _ _ (by rintro ⟨-, -, h, -⟩; exact x_ne _ h)).mono ?_; rintro e w3 ⟨rfl, hb3⟩)
    | (go_at_call 8; refine (getNew_no _ _ _ _ _ _ (by rintro ⟨h, -⟩; omega)).mono ?_; rintro e w4 ⟨rfl, hb4⟩)
    | (go_at_call 11; refine (runs _).mono ?_; rintro e w5 ⟨rfl, hb5⟩)
    | go_in)
  all_goals first
    | (go_ret; exact ⟨rfl, after (after (after (after hb1 hb2) hb3) hb4) hb5⟩)
theorem getR_any (s t : ByteArray) (v kd : Int) (runs : ∀ w, Calls Try.prog 11 #[] w fun e w' => e = .returned (.bool true) ∧ Below w.heap.size w w') (hs9 : s.size ≤ 9223372036854775807) (w : World) :
    Calls Try.prog 4 #[.string s, .string t, .int .i64 v, .int .i64 kd] w fun e w' => e = .returned (.bool true) ∧ Below w.heap.size w w' := by
  by_cases hs : (30 : Int) < s.size
  · by_cases ht : (9 : Int) < t.size
    · cases hr : rightL (s.extract 0 30).data.toList with
      | true => exact getR_111 s t v kd runs w hs9 hs ht hr
      | false => exact getR_110 s t v kd runs w hs9 hs ht hr
    · cases hr : rightL (s.extract 0 30).data.toList with
      | true => exact getR_101 s t v kd runs w hs9 hs ht hr
      | false => exact getR_100 s t v kd runs w hs9 hs ht hr
  · by_cases ht : (9 : Int) < t.size
    · cases hr : rightL s.data.toList with
      | true => exact getR_011 s t v kd runs w hs9 hs ht hr
      | false => exact getR_010 s t v kd runs w hs9 hs ht hr
    · cases hr : rightL s.data.toList with
      | true => exact getR_001 s t v kd runs w hs9 hs ht hr
      | false => exact getR_000 s t v kd runs w hs9 hs ht hr
end Go.Proofs.Ytkdnegaecdpccaa
