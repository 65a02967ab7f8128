/-
  Which slot a ref names: slot and target; no condition but that there are few slots.
-/
import Derived.Test.YtndmpdpmfieacaaAr3
namespace Go.Proofs.Ytndmpdpmfieacaa
open Go.RowKit Go.WideShapes Go.ChangeShapes
set_option linter.all false
/-- What is said of a ref: nought where it names a live slot. -/
inductive Why (sl : List Sl) (r : Int) : Nat → Prop
  | bad (h : ¬ goodP r) : Why sl r 1
  | far (h : goodP r) (hf : (sl.length : Int) ≤ slotV r) : Why sl r 1
  | leaf (i : Nat) (h : goodP r) (hi : i < sl.length) (e : slotV r = i) (hl : leafV r = !(((sl.getD i dS).cls : Int) == 0)) : Why sl r 1
  | gen (i : Nat) (h : goodP r) (hi : i < sl.length) (e : slotV r = i) (hl : leafV r = (((sl.getD i dS).cls : Int) == 0)) (hg : genV r ≠ ((sl.getD i dS).gen : Int)) : Why sl r 4
  | free (i : Nat) (h : goodP r) (hi : i < sl.length) (e : slotV r = i) (hl : leafV r = (((sl.getD i dS).cls : Int) == 0)) (hg : genV r = ((sl.getD i dS).gen : Int)) (hv : (sl.getD i dS).live = false) : Why sl r 3
/-- The ref names the live slot i. -/
structure Live (sl : List Sl) (r : Int) (i : Nat) : Prop where
  good : goodP r
  lt : i < sl.length
  slot : slotV r = i
  leaf : leafV r = (((sl.getD i dS).cls : Int) == 0)
  gen : genV r = ((sl.getD i dS).gen : Int)
  live : (sl.getD i dS).live = true
theorem why_or (sl : List Sl) (r : Int) : (∃ z, Why sl r z ∧ (z = 1 ∨ z = 3 ∨ z = 4)) ∨ ∃ i, Live sl r i := by
  by_cases h : goodP r
  · have hp := good_parts h
    obtain ⟨i, hi⟩ : ∃ i : Nat, slotV r = i := ⟨(slotV r).toNat, by omega⟩
    by_cases hl : i < sl.length
    · by_cases h2 : leafV r = (((sl.getD i dS).cls : Int) == 0)
      · by_cases h3 : genV r = ((sl.getD i dS).gen : Int)
        · cases h4 : (sl.getD i dS).live with
          | true => exact .inr ⟨i, h, hl, hi, h2, h3, h4⟩
          | false => exact .inl ⟨3, .free i h hl hi h2 h3 h4, .inr (.inl rfl)⟩
        · exact .inl ⟨4, .gen i h hl hi h2 h3, .inr (.inr rfl)⟩
      · refine .inl ⟨1, .leaf i h hl hi ?_, .inl rfl⟩
        cases hx : leafV r <;> cases hy : (((sl.getD i dS).cls : Int) == 0) <;> simp_all
    · exact .inl ⟨1, .far h (by omega), .inl rfl⟩
  · exact .inl ⟨1, .bad h, .inl rfl⟩
section
variable {N B S k q : Nat} {sl : List Sl} {P I : Nat → Nat} {V : Nat → Value} {xs : Nat → List Int} {w : World}
set_option maxRecDepth 100000 in
set_option maxHeartbeats 1600000 in
theorem slot_no (h : Ar N B S k q sl P I V xs w) (hn : sl.length ≤ 1024) {r : Int} {z : Nat} (hw : Why sl r z) :
    Calls Try.prog 51 #[.pointer (some ⟨B, 0, none⟩), .int .i64 r] w fun e w' => e = .returned (.tuple #[.pointer none, .int .i64 (z : Nat)]) ∧ w' = w := by
  have c0 := cell_of h.box 0
  simp only [List.getElem?_toArray, List.getElem?_cons_zero] at c0
  have HR := Lib.hid h.row
  clear h
  cases hw with
  | bad hg =>
    go_enter Try.func51, Try.ntmps51
    go_wp2_with (first
      | (go_at_call 55; refine (parts_bad r hg w).mono ?_; rintro e w' ⟨rfl, rfl⟩)
      | fail)
    go_ret2
    exact ⟨rfl, rfl⟩
  | far hg hf =>
    go_enter Try.func51, Try.ntmps51
    go_wp2_with (first
      | (go_at_call 55; refine (parts_good r hg w).mono ?_; rintro e w' ⟨rfl, rfl⟩)
      | fail)
    go_ret2
    exact ⟨rfl, rfl⟩
  | leaf i hg hi he hl =>
    have c1 := HR.out.c0 i hi
    have i0 : (0 : Int) ≤ i := by omega
    have i1 : (i : Int) < sl.length := by omega
    have i2 : ¬ ((sl.length : Int) ≤ i) := by omega
    generalize ((sl.getD i dS).cls : Int) = kl at *
    generalize sl.length = n at *
    have HE := Lib.hid he
    have HL := Lib.hid hl
    clear he hl
    go_enter Try.func51, Try.ntmps51
    go_wp2_with (first
      | (go_at_call 55; refine (parts_good r hg w).mono ?_; rw [HE.out, HL.out]; rintro e w' ⟨rfl, rfl⟩)
      | fail)
    go_ret2
    exact ⟨rfl, rfl⟩
  | gen i hg hi he hl hgn =>
    have c1 := HR.out.c0 i hi
    have c2 := HR.out.c1 i hi
    have i0 : (0 : Int) ≤ i := by omega
    have i1 : (i : Int) < sl.length := by omega
    have i2 : ¬ ((sl.length : Int) ≤ i) := by omega
    generalize ((sl.getD i dS).cls : Int) = kl at *
    generalize ((sl.getD i dS).gen : Int) = g at *
    generalize sl.length = n at *
    have HE := Lib.hid he
    have HL := Lib.hid hl
    clear he hl
    obtain ⟨gv, hgv⟩ : ∃ gv, genV r = gv := ⟨_, rfl⟩
    rw [hgv] at hgn
    have HV := Lib.hid hgv
    clear hgv
    have hgg : (gv == g) = false := by simpa using hgn
    go_enter Try.func51, Try.ntmps51
    go_wp2_with (first
      | (go_at_call 55; refine (parts_good r hg w).mono ?_; rw [HE.out, HL.out, HV.out]; rintro e w' ⟨rfl, rfl⟩)
      | fail)
    go_ret2
    exact ⟨rfl, rfl⟩
  | free i hg hi he hl hgn hv =>
    have c1 := HR.out.c0 i hi
    have c2 := HR.out.c1 i hi
    have c3 := HR.out.c2 i hi
    rw [hv] at c3
    have i0 : (0 : Int) ≤ i := by omega
    have i1 : (i : Int) < sl.length := by omega
    have i2 : ¬ ((sl.length : Int) ≤ i) := by omega
    generalize ((sl.getD i dS).cls : Int) = kl at *
    generalize ((sl.getD i dS).gen : Int) = g at *
    generalize sl.length = n at *
    have HE := Lib.hid he
    have HL := Lib.hid hl
    clear he hl
    have HV := Lib.hid hgn
    clear hgn hv
    go_enter Try.func51, Try.ntmps51
    go_wp2_with (first
      | (go_at_call 55; refine (parts_good r hg w).mono ?_; rw [HE.out, HL.out, HV.out]; rintro e w' ⟨rfl, rfl⟩)
      | fail)
    go_ret2
    exact ⟨rfl, rfl⟩
set_option maxRecDepth 100000 in
set_option maxHeartbeats 1600000 in
theorem slot_ok (h : Ar N B S k q sl P I V xs w) (hn : sl.length ≤ 1024) {r : Int} {i : Nat} (hw : Live sl r i) :
    Calls Try.prog 51 #[.pointer (some ⟨B, 0, none⟩), .int .i64 r] w fun e w' => e = .returned (.tuple #[.pointer (some ⟨S, i * 4, none⟩), .int .i64 0]) ∧ w' = w := by
  have c0 := cell_of h.box 0
  simp only [List.getElem?_toArray, List.getElem?_cons_zero] at c0
  have HR := Lib.hid h.row
  clear h
  obtain ⟨hg, hi, he, hl, hgn, hv⟩ := hw
  have c1 := HR.out.c0 i hi
  have c2 := HR.out.c1 i hi
  have c3 := HR.out.c2 i hi
  rw [hv] at c3
  have i0 : (0 : Int) ≤ i := by omega
  have i1 : (i : Int) < sl.length := by omega
  have i2 : ¬ ((sl.length : Int) ≤ i) := by omega
  generalize ((sl.getD i dS).cls : Int) = kl at *
  generalize ((sl.getD i dS).gen : Int) = g at *
  generalize sl.length = n at *
  have HE := Lib.hid he
  have HL := Lib.hid hl
  have HV := Lib.hid hgn
  clear he hl hgn hv
  go_enter Try.func51, Try.ntmps51
  go_wp2_with (first
    | (go_at_call 55; refine (parts_good r hg w).mono ?_; rw [HE.out, HL.out, HV.out]; rintro e w' ⟨rfl, rfl⟩)
    | fail)
  go_ret2
  exact ⟨rfl, rfl⟩
set_option maxRecDepth 100000 in
theorem target_no (h : Ar N B S k q sl P I V xs w) (hn : sl.length ≤ 1024) {r : Int} {z : Nat} (hw : Why sl r z) (A : Option Addr) (m c : Nat) :
    Calls Try.prog 52 #[.pointer (some ⟨B, 0, none⟩), .int .i64 r, .slice A m c] w fun e w' => e = .returned (.tuple #[.pointer none, .int .i64 (z : Nat)]) ∧ w' = w := by
  have hz : z = 1 ∨ z = 3 ∨ z = 4 := by cases hw <;> simp
  have hs := slot_no h hn hw
  clear h
  rcases hz with rfl | rfl | rfl
  all_goals
    go_enter Try.func52, Try.ntmps52
    go_wp2_with (first
      | (go_at_call 51; refine hs.mono ?_; rintro e w' ⟨rfl, rfl⟩)
      | fail)
    go_ret2
    exact ⟨rfl, rfl⟩
set_option maxRecDepth 100000 in
theorem target_big (h : Ar N B S k q sl P I V xs w) (hn : sl.length ≤ 1024) {r : Int} {i : Nat} (hw : Live sl r i) (A : Option Addr) (m c : Nat) (hm : szN (sl.getD i dS).cls < m) :
    Calls Try.prog 52 #[.pointer (some ⟨B, 0, none⟩), .int .i64 r, .slice A m c] w fun e w' => e = .returned (.tuple #[.pointer none, .int .i64 1]) ∧ w' = w := by
  have hs := slot_ok h hn hw
  have c3 := h.row.c3 i hw.lt
  generalize szN (sl.getD i dS).cls = n at *
  have hm1 : (n : Int) < m := by omega
  clear h
  go_enter Try.func52, Try.ntmps52
  go_wp2_with (first
    | (go_at_call 51; refine hs.mono ?_; rintro e w' ⟨rfl, rfl⟩)
    | fail)
  go_ret2
  exact ⟨rfl, rfl⟩
set_option maxRecDepth 100000 in
theorem target_ok (h : Ar N B S k q sl P I V xs w) (hn : sl.length ≤ 1024) {r : Int} {i : Nat} (hw : Live sl r i) (A : Option Addr) (m c : Nat) (hm : m ≤ szN (sl.getD i dS).cls) :
    Calls Try.prog 52 #[.pointer (some ⟨B, 0, none⟩), .int .i64 r, .slice A m c] w fun e w' => e = .returned (.tuple #[.pointer (some ⟨S, i * 4, none⟩), .int .i64 0]) ∧ w' = w := by
  have hs := slot_ok h hn hw
  have c3 := h.row.c3 i hw.lt
  generalize szN (sl.getD i dS).cls = n at *
  have hm1 : ¬ ((n : Int) < m) := by omega
  clear h
  go_enter Try.func52, Try.ntmps52
  go_wp2_with (first
    | (go_at_call 51; refine hs.mono ?_; rintro e w' ⟨rfl, rfl⟩)
    | fail)
  go_ret2
  exact ⟨rfl, rfl⟩
end
end Go.Proofs.Ytndmpdpmfieacaa
