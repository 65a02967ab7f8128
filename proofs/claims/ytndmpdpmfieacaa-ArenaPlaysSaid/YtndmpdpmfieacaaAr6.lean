/-
  Store and Swap; conditions: few slots.
-/
import Derived.Test.YtndmpdpmfieacaaAr5
namespace Go.Proofs.Ytndmpdpmfieacaa
open Go.RowKit Go.WideShapes Go.ChangeShapes
set_option linter.all false
section
variable {N B S k q : Nat} {sl : List Sl} {P I : Nat → Nat} {V : Nat → Value} {xs : Nat → List Int} {w w' : World}
/-- A slot's words are filled. -/
theorem Ar.filled (h : Ar N B S k q sl P I V xs w) {i : Nat} (hi : i < sl.length) {m c M : Nat} {A : Option Addr} {l : List Int} (hr : Reads w M 1 A m (wv l)) (hm : m ≤ szN (sl.getD i dS).cls) :
    Calls Try.prog 53 #[.pointer (some ⟨S, i * 4, none⟩), .slice A m c] w fun e w' => e = .returned (.tuple #[]) ∧ Ar N B S k q (sl.set i { sl.getD i dS with ws := fillL (szN (sl.getD i dS).cls) l }) P I V xs w' ∧ Mv (Foot B S q sl P I V) (Foot B S q sl P I V) w w' := by
  obtain ⟨h1, h2, h3, h4⟩ := h.wds i hi
  have hle := szN_le (sl.getD i dS).cls
  have hSB := h.SB
  have hlm : l.length = m := by have := hr.1; rw [wv_len] at this; omega
  refine (fill_any S (i * 4) _ _ m c M A l (wv (sl.getD i dS).ws) w (h.row.c3 i hi) h1 (by rw [wv_len, h2]) (by omega) (by omega) hr hm).mono ?_
  rintro e w' ⟨rfl, hw, hg⟩
  exact ⟨rfl, h.words hi _ (fillL_len (by omega)) hw (fun b hb hne => hg.block b hb (fun e => by injection e with e; exact hne e)), Mv.of_grown hg (.inr (.inr (.inl ⟨i, hi, rfl⟩))) (fun _ hx => .inl hx)⟩
theorem store_no (h : Ar N B S k q sl P I V xs w) (hn : sl.length ≤ 1024) {r : Int} {z : Nat} (hw : Why sl r z) (A : Option Addr) (m c : Nat) :
    Calls Try.prog 19 #[.pointer (some ⟨B, 0, none⟩), .int .i64 r, .slice A m c] w fun e w' => e = .returned (.int .i64 (z : Nat)) ∧ w' = w := by
  have hz : z = 1 ∨ z = 3 ∨ z = 4 := by cases hw <;> simp
  have hs := target_no h hn hw A m c
  clear h
  rcases hz with rfl | rfl | rfl
  all_goals
    go_enter Try.func19, Try.ntmps19
    go_wp2_with (first
      | (go_at_call 52; refine hs.mono ?_; rintro e w' ⟨rfl, rfl⟩)
      | fail)
    go_ret
    exact ⟨rfl, rfl⟩
theorem store_big (h : Ar N B S k q sl P I V xs w) (hn : sl.length ≤ 1024) {r : Int} {i : Nat} (hw : Live sl r i) (A : Option Addr) (m c : Nat) (hm : szN (sl.getD i dS).cls < m) :
    Calls Try.prog 19 #[.pointer (some ⟨B, 0, none⟩), .int .i64 r, .slice A m c] w fun e w' => e = .returned (.int .i64 1) ∧ w' = w := by
  have hs := target_big h hn hw A m c hm
  clear h
  go_enter Try.func19, Try.ntmps19
  go_wp2_with (first
    | (go_at_call 52; refine hs.mono ?_; rintro e w' ⟨rfl, rfl⟩)
    | fail)
  go_ret
  exact ⟨rfl, rfl⟩
theorem store_ok (h : Ar N B S k q sl P I V xs w) (hn : sl.length ≤ 1024) {r : Int} {i : Nat} (hw : Live sl r i) {m c M : Nat} {A : Option Addr} {l : List Int} (hr : Reads w M 1 A m (wv l)) (hm : m ≤ szN (sl.getD i dS).cls) :
    Calls Try.prog 19 #[.pointer (some ⟨B, 0, none⟩), .int .i64 r, .slice A m c] w fun e w' => e = .returned (.int .i64 0) ∧ Ar N B S k q (sl.set i { sl.getD i dS with ws := fillL (szN (sl.getD i dS).cls) l }) P I V xs w' ∧ Mv (Foot B S q sl P I V) (Foot B S q sl P I V) w w' := by
  have hs := target_ok h hn hw A m c hm
  have hf := h.filled hw.lt (c := c) hr hm
  clear h hr hm
  go_enter Try.func19, Try.ntmps19
  go_wp2_with (first
    | (go_at_call 52; refine hs.mono ?_; rintro e w' ⟨rfl, rfl⟩)
    | (go_at_call 53; refine hf.mono ?_; rintro e w2 ⟨rfl, ha, hv⟩)
    | fail)
  go_ret
  exact ⟨rfl, ha, hv⟩
theorem swap_no (h : Ar N B S k q sl P I V xs w) (hn : sl.length ≤ 1024) {r : Int} {z : Nat} (hw : Why sl r z) (x : Int) (A : Option Addr) (m c : Nat) :
    Calls Try.prog 17 #[.pointer (some ⟨B, 0, none⟩), .int .i64 r, .int .u64 x, .slice A m c] w fun e w' => e = .returned (.tuple #[.bool false, .int .i64 (z : Nat)]) ∧ w' = w := by
  have hz : z = 1 ∨ z = 3 ∨ z = 4 := by cases hw <;> simp
  have hs := target_no h hn hw A m c
  clear h
  rcases hz with rfl | rfl | rfl
  all_goals
    go_enter Try.func17, Try.ntmps17
    go_wp2_with (first
      | (go_at_call 52; refine hs.mono ?_; rintro e w' ⟨rfl, rfl⟩)
      | fail)
    go_ret2
    exact ⟨rfl, rfl⟩
theorem swap_big (h : Ar N B S k q sl P I V xs w) (hn : sl.length ≤ 1024) {r : Int} {i : Nat} (hw : Live sl r i) (x : Int) (A : Option Addr) (m c : Nat) (hm : szN (sl.getD i dS).cls < m) :
    Calls Try.prog 17 #[.pointer (some ⟨B, 0, none⟩), .int .i64 r, .int .u64 x, .slice A m c] w fun e w' => e = .returned (.tuple #[.bool false, .int .i64 1]) ∧ w' = w := by
  have hs := target_big h hn hw A m c hm
  clear h
  go_enter Try.func17, Try.ntmps17
  go_wp2_with (first
    | (go_at_call 52; refine hs.mono ?_; rintro e w' ⟨rfl, rfl⟩)
    | fail)
  go_ret2
  exact ⟨rfl, rfl⟩
/-- The first word's cell. -/
theorem Ar.head (h : Ar N B S k q sl P I V xs w) {i : Nat} (hi : i < sl.length) : w.cell? ⟨(sl.getD i dS).blk, 0, none⟩ = some (.int .u64 ((sl.getD i dS).ws.getD 0 0)) ∧ 0 < szN (sl.getD i dS).cls := by
  obtain ⟨h1, h2, h3, h4⟩ := h.wds i hi
  have hp := szN_pos h3
  rw [cell_of h1]
  generalize (sl.getD i dS).ws = l at *
  cases l with
  | nil => have h5 : 0 = szN (sl.getD i dS).cls := h2
           omega
  | cons a r => exact ⟨rfl, by omega⟩
theorem swap_ne (h : Ar N B S k q sl P I V xs w) (hn : sl.length ≤ 1024) {r : Int} {i : Nat} (hw : Live sl r i) (x : Int) (A : Option Addr) (m c : Nat) (hm : m ≤ szN (sl.getD i dS).cls) (hx : (sl.getD i dS).ws.getD 0 0 ≠ x) :
    Calls Try.prog 17 #[.pointer (some ⟨B, 0, none⟩), .int .i64 r, .int .u64 x, .slice A m c] w fun e w' => e = .returned (.tuple #[.bool false, .int .i64 0]) ∧ w' = w := by
  have hs := target_ok h hn hw A m c hm
  have c3 := h.row.c3 i hw.lt
  obtain ⟨ch, hp⟩ := h.head hw.lt
  generalize szN (sl.getD i dS).cls = n at *
  generalize (sl.getD i dS).blk = b at *
  generalize (sl.getD i dS).ws.getD 0 0 = y at *
  have hxx : (y == x) = false := by simpa using hx
  clear h hx
  go_enter Try.func17, Try.ntmps17
  go_wp2_with (first
    | (go_at_call 52; refine hs.mono ?_; rintro e w' ⟨rfl, rfl⟩)
    | fail)
  go_ret2
  exact ⟨rfl, rfl⟩
theorem swap_ok (h : Ar N B S k q sl P I V xs w) (hn : sl.length ≤ 1024) {r : Int} {i : Nat} (hw : Live sl r i) {x : Int} {m c M : Nat} {A : Option Addr} {l : List Int} (hr : Reads w M 1 A m (wv l)) (hm : m ≤ szN (sl.getD i dS).cls) (hx : (sl.getD i dS).ws.getD 0 0 = x) :
    Calls Try.prog 17 #[.pointer (some ⟨B, 0, none⟩), .int .i64 r, .int .u64 x, .slice A m c] w fun e w' => e = .returned (.tuple #[.bool true, .int .i64 0]) ∧ Ar N B S k q (sl.set i { sl.getD i dS with ws := fillL (szN (sl.getD i dS).cls) l }) P I V xs w' ∧ Mv (Foot B S q sl P I V) (Foot B S q sl P I V) w w' := by
  have hs := target_ok h hn hw A m c hm
  have hf := Lib.hid (h.filled hw.lt (c := c) hr hm)
  have c3 := h.row.c3 i hw.lt
  obtain ⟨ch, hp⟩ := h.head hw.lt
  rw [hx] at ch
  clear h hr hx
  generalize szN (sl.getD i dS).cls = n at *
  generalize (sl.getD i dS).blk = b at *
  clear hm
  go_enter Try.func17, Try.ntmps17
  go_wp2_with (first
    | (go_at_call 52; refine hs.mono ?_; rintro e w' ⟨rfl, rfl⟩)
    | (go_at_call 53; refine hf.out.mono ?_; rintro e w2 ⟨rfl, ha, hv⟩)
    | fail)
  go_ret2
  exact ⟨rfl, ha, hv⟩
end
end Go.Proofs.Ytndmpdpmfieacaa
