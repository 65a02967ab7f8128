/-
  The document's DecodeLeaf: the leaf whose words these are, if there is one; condition: sizes.
-/
import Derived.Test.YtkobgejeapcfkaaNkN
import Derived.Deep.QuietTactic
import Derived.BigQuiet
namespace Go.Proofs.Ytkobgejeapcfkaa
open Go.RowKit Go.WideShapes Go.ChangeShapes
set_option linter.all false
theorem rdk {w : World} {B g : Nat} {xs : List Int} (h : Reads w B 1 (some ⟨g, 0, none⟩) 8 (u64s xs)) (j : Nat) (hj : j < 8) {x : Nat} (hx : xs.getD j 0 = (x : Int)) : w.cell? ⟨g, j, none⟩ = some (.int .u64 (x : Int)) := by
  obtain ⟨ad, e, hc⟩ := h.u64at (k := j) hj
  injection e with e
  subst e
  rw [hx] at hc
  have : (⟨g, 0, none⟩ : Addr).add j = ⟨g, j, none⟩ := by
    unfold Addr.add
    by_cases h0 : j = 0
    · subst h0; rfl
    · rw [if_neg h0]; simp
  rw [this] at hc; exact hc
structure Conds (x0 x1 x4 x5 x6 x7 : Nat) : Prop where
  c0 : (x0 : Int) = 0
  c1 : bits .andNot .u64 (x1 : Int) 65280 = 0
  c4 : ¬ (x4 : Int) > 1099511627776
  c5 : bits .or .u64 (bits .or .u64 (x5 : Int) (x6 : Int)) (x7 : Int) = 0
theorem conds_of {k : ByteArray} {v : Int} {xs : List Int} {x0 x1 x4 x5 x6 x7 : Nat} (hok : leafOk k v = true) (h : leafW k v = xs) (h0 : xs.getD 0 0 = (x0 : Int)) (h1 : xs.getD 1 0 = (x1 : Int)) (h4 : xs.getD 4 0 = (x4 : Int)) (h5 : xs.getD 5 0 = (x5 : Int)) (h6 : xs.getD 6 0 = (x6 : Int)) (h7 : xs.getD 7 0 = (x7 : Int)) : Conds x0 x1 x4 x5 x6 x7 ∧ x1 / 256 = k.size := by
  obtain ⟨s1, s2, v1, v2⟩ := leafOk_size hok
  have p := leafW_parts (by omega) h
  have e0 : x0 = 0 := by have := p.p0; rw [h0] at this; omega
  have e1 : x1 = 256 * k.size := by have := p.p1; rw [h1] at this; omega
  have e4 : (x4 : Int) = v := by have := p.p4; rw [h4] at this; exact this
  have e5 : x5 = 0 := by have := p.p5; rw [h5] at this; omega
  have e6 : x6 = 0 := by have := p.p6; rw [h6] at this; omega
  have e7 : x7 = 0 := by have := p.p7; rw [h7] at this; omega
  refine ⟨⟨by omega, ?_, by omega, ?_⟩, by omega⟩
  · have := List.all_eq_true.1 andNot_leaf k.size (List.mem_range.2 (by omega))
    rw [e1]
    simpa using this
  · rw [e5, e6, e7]; rfl
theorem below_drewN' {B : Nat} (w : World) (n : Nat) : Below B w (w.drewN n) := ⟨rfl, rfl, rfl, Nat.le_refl _, fun _ _ => rfl⟩
theorem rhigh_any (w : World) : Calls Try.prog 25 #[.int .i64 0] w fun e w' => e = .returned (.int .i64 8) ∧ w' = w := rsize0_any w
set_option maxRecDepth 100000 in
set_option maxHeartbeats 3200000 in
theorem rdec_0 (g : Nat) (xs : List Int) (x0 x1 x4 x5 x6 x7 : Nat) (w : World) (k0 : w.cell? ⟨g, 0, none⟩ = some (.int .u64 (x0 : Int))) (k1 : w.cell? ⟨g, 1, none⟩ = some (.int .u64 (x1 : Int))) (k4 : w.cell? ⟨g, 4, none⟩ = some (.int .u64 (x4 : Int))) (k5 : w.cell? ⟨g, 5, none⟩ = some (.int .u64 (x5 : Int))) (k6 : w.cell? ⟨g, 6, none⟩ = some (.int .u64 (x6 : Int))) (k7 : w.cell? ⟨g, 7, none⟩ = some (.int .u64 (x7 : Int)))
    (n0 : ¬ (x0 : Int) = 0)
    (HD : Hid (DL xs ⟨#[]⟩ 0 false)) : Calls Try.prog 11 #[.slice (some ⟨g, 0, none⟩) 8 8] w (DecPost xs w) := by
  have al : ∀ j x, w.cell? ⟨g, j, none⟩ = some (.int .u64 x) → (w.alloc (.cells #[.string ⟨#[]⟩, .int .i64 0] 23)).cell? ⟨g, j, none⟩ = some (.int .u64 x) := fun j x h => (World.cell?_alloc_lt _ _ _ (World.block_lt_of_cell? _ _ h)).trans h
  replace k0 := al _ _ k0
  replace k1 := al _ _ k1
  replace k4 := al _ _ k4
  replace k5 := al _ _ k5
  replace k6 := al _ _ k6
  replace k7 := al _ _ k7
  clear al
  have m0 : (((x0 : Nat) : Int) != 0) = true := by simpa using n0
  clear n0
  go_enter Try.func11, Try.ntmps11
  go_wp2
  go_quiet ((go_at_call 25; exact Calls.quiet_of_same (rsize0_any _)))
  go_wp2
  exact bodyPost_ret (v := .tuple #[.agg #[.string ⟨#[]⟩, .int .i64 0], .bool false]) (by simp [results, Try.results11, go_sem]) rfl ⟨_, _, _, rfl, HD.out, (((below_al w _).trans (below_drewN' _ _)).setCell (by simp) _).setCell (by simp) _⟩
set_option maxRecDepth 100000 in
set_option maxHeartbeats 3200000 in
theorem rdec_1 (g : Nat) (xs : List Int) (x0 x1 x4 x5 x6 x7 : Nat) (w : World) (k0 : w.cell? ⟨g, 0, none⟩ = some (.int .u64 (x0 : Int))) (k1 : w.cell? ⟨g, 1, none⟩ = some (.int .u64 (x1 : Int))) (k4 : w.cell? ⟨g, 4, none⟩ = some (.int .u64 (x4 : Int))) (k5 : w.cell? ⟨g, 5, none⟩ = some (.int .u64 (x5 : Int))) (k6 : w.cell? ⟨g, 6, none⟩ = some (.int .u64 (x6 : Int))) (k7 : w.cell? ⟨g, 7, none⟩ = some (.int .u64 (x7 : Int)))
    (n0 : (x0 : Int) = 0) (n1 : ¬ bits .andNot .u64 (x1 : Int) 65280 = 0)
    (HD : Hid (DL xs ⟨#[]⟩ 0 false)) : Calls Try.prog 11 #[.slice (some ⟨g, 0, none⟩) 8 8] w (DecPost xs w) := by
  have al : ∀ j x, w.cell? ⟨g, j, none⟩ = some (.int .u64 x) → (w.alloc (.cells #[.string ⟨#[]⟩, .int .i64 0] 23)).cell? ⟨g, j, none⟩ = some (.int .u64 x) := fun j x h => (World.cell?_alloc_lt _ _ _ (World.block_lt_of_cell? _ _ h)).trans h
  replace k0 := al _ _ k0
  replace k1 := al _ _ k1
  replace k4 := al _ _ k4
  replace k5 := al _ _ k5
  replace k6 := al _ _ k6
  replace k7 := al _ _ k7
  clear al
  have m0 : (((x0 : Nat) : Int) != 0) = false := by simpa using n0
  have m1 : (bits .andNot .u64 (x1 : Int) 65280 != 0) = true := by simpa using n1
  clear n0 n1
  go_enter Try.func11, Try.ntmps11
  go_wp2
  go_quiet ((go_at_call 25; exact Calls.quiet_of_same (rsize0_any _)))
  go_wp2
  exact bodyPost_ret (v := .tuple #[.agg #[.string ⟨#[]⟩, .int .i64 0], .bool false]) (by simp [results, Try.results11, go_sem]) rfl ⟨_, _, _, rfl, HD.out, (((below_al w _).trans (below_drewN' _ _)).setCell (by simp) _).setCell (by simp) _⟩
set_option maxRecDepth 100000 in
set_option maxHeartbeats 3200000 in
theorem rdec_4 (g : Nat) (xs : List Int) (x0 x1 x4 x5 x6 x7 : Nat) (w : World) (k0 : w.cell? ⟨g, 0, none⟩ = some (.int .u64 (x0 : Int))) (k1 : w.cell? ⟨g, 1, none⟩ = some (.int .u64 (x1 : Int))) (k4 : w.cell? ⟨g, 4, none⟩ = some (.int .u64 (x4 : Int))) (k5 : w.cell? ⟨g, 5, none⟩ = some (.int .u64 (x5 : Int))) (k6 : w.cell? ⟨g, 6, none⟩ = some (.int .u64 (x6 : Int))) (k7 : w.cell? ⟨g, 7, none⟩ = some (.int .u64 (x7 : Int)))
    (n0 : (x0 : Int) = 0) (n1 : bits .andNot .u64 (x1 : Int) 65280 = 0) (n4 : (x4 : Int) > 1099511627776)
    (HD : Hid (DL xs ⟨#[]⟩ 0 false)) : Calls Try.prog 11 #[.slice (some ⟨g, 0, none⟩) 8 8] w (DecPost xs w) := by
  have al : ∀ j x, w.cell? ⟨g, j, none⟩ = some (.int .u64 x) → (w.alloc (.cells #[.string ⟨#[]⟩, .int .i64 0] 23)).cell? ⟨g, j, none⟩ = some (.int .u64 x) := fun j x h => (World.cell?_alloc_lt _ _ _ (World.block_lt_of_cell? _ _ h)).trans h
  replace k0 := al _ _ k0
  replace k1 := al _ _ k1
  replace k4 := al _ _ k4
  replace k5 := al _ _ k5
  replace k6 := al _ _ k6
  replace k7 := al _ _ k7
  clear al
  have m0 : (((x0 : Nat) : Int) != 0) = false := by simpa using n0
  have m1 : (bits .andNot .u64 (x1 : Int) 65280 != 0) = false := by simpa using n1
  have m4 : decide ((1099511627776 : Int) < (x4 : Int)) = true := decide_eq_true (by omega)
  clear n0 n1 n4
  go_enter Try.func11, Try.ntmps11
  go_wp2
  go_quiet ((go_at_call 25; exact Calls.quiet_of_same (rsize0_any _)))
  go_wp2
  exact bodyPost_ret (v := .tuple #[.agg #[.string ⟨#[]⟩, .int .i64 0], .bool false]) (by simp [results, Try.results11, go_sem]) rfl ⟨_, _, _, rfl, HD.out, (((below_al w _).trans (below_drewN' _ _)).setCell (by simp) _).setCell (by simp) _⟩
set_option maxRecDepth 100000 in
set_option maxHeartbeats 3200000 in
theorem rdec_5 (g : Nat) (xs : List Int) (x0 x1 x4 x5 x6 x7 : Nat) (w : World) (k0 : w.cell? ⟨g, 0, none⟩ = some (.int .u64 (x0 : Int))) (k1 : w.cell? ⟨g, 1, none⟩ = some (.int .u64 (x1 : Int))) (k4 : w.cell? ⟨g, 4, none⟩ = some (.int .u64 (x4 : Int))) (k5 : w.cell? ⟨g, 5, none⟩ = some (.int .u64 (x5 : Int))) (k6 : w.cell? ⟨g, 6, none⟩ = some (.int .u64 (x6 : Int))) (k7 : w.cell? ⟨g, 7, none⟩ = some (.int .u64 (x7 : Int)))
    (n0 : (x0 : Int) = 0) (n1 : bits .andNot .u64 (x1 : Int) 65280 = 0) (n4 : ¬ (x4 : Int) > 1099511627776) (n5 : ¬ bits .or .u64 (bits .or .u64 (x5 : Int) (x6 : Int)) (x7 : Int) = 0)
    (HD : Hid (DL xs ⟨#[]⟩ 0 false)) : Calls Try.prog 11 #[.slice (some ⟨g, 0, none⟩) 8 8] w (DecPost xs w) := by
  have al : ∀ j x, w.cell? ⟨g, j, none⟩ = some (.int .u64 x) → (w.alloc (.cells #[.string ⟨#[]⟩, .int .i64 0] 23)).cell? ⟨g, j, none⟩ = some (.int .u64 x) := fun j x h => (World.cell?_alloc_lt _ _ _ (World.block_lt_of_cell? _ _ h)).trans h
  replace k0 := al _ _ k0
  replace k1 := al _ _ k1
  replace k4 := al _ _ k4
  replace k5 := al _ _ k5
  replace k6 := al _ _ k6
  replace k7 := al _ _ k7
  clear al
  have m0 : (((x0 : Nat) : Int) != 0) = false := by simpa using n0
  have m1 : (bits .andNot .u64 (x1 : Int) 65280 != 0) = false := by simpa using n1
  have m4 : decide ((1099511627776 : Int) < (x4 : Int)) = false := decide_eq_false (by omega)
  have m5 : (bits .or .u64 (bits .or .u64 (x5 : Int) (x6 : Int)) (x7 : Int) != 0) = true := by simpa using n5
  clear n0 n1 n4 n5
  go_enter Try.func11, Try.ntmps11
  go_wp2
  go_quiet ((go_at_call 25; exact Calls.quiet_of_same (rsize0_any _)))
  go_wp2
  exact bodyPost_ret (v := .tuple #[.agg #[.string ⟨#[]⟩, .int .i64 0], .bool false]) (by simp [results, Try.results11, go_sem]) rfl ⟨_, _, _, rfl, HD.out, (((below_al w _).trans (below_drewN' _ _)).setCell (by simp) _).setCell (by simp) _⟩
end Go.Proofs.Ytkobgejeapcfkaa
