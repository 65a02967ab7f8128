/-
  The program's calls on epochs: each answer, and what it turns; conditions: sizes.
-/
import Derived.Test.YtafedpphecfgnaaEy1
import Derived.Test.YtafedpphecfgnaaWd
namespace Go.Proofs.Ytafedpphecfgnaa
open Go.RowKit Go.WideShapes Go.ChangeShapes
set_option linter.all false
attribute [local go_sem ↓] Go.wp_at_zero Go.wp_at_succ
/-- Is it a client? -/
def inK (k : Nat) (c : Int) : Bool := decide (0 ≤ c ∧ c < k)
theorem inK_yes {k j : Nat} (h : j < k) : inK k (j : Int) = true := by unfold inK; exact decide_eq_true ⟨by omega, by omega⟩
theorem inK_no {k : Nat} {c : Int} (h : c < 0 ∨ k ≤ c) : inK k c = false := by unfold inK; exact decide_eq_false (by omega)
theorem inK_or (k : Nat) (c : Int) : (∃ j : Nat, c = j ∧ j < k) ∨ (c < 0 ∨ k ≤ c) := by
  by_cases h : 0 ≤ c ∧ c < k
  · exact .inl ⟨c.toNat, by omega, by omega⟩
  · exact .inr (by omega)
def pinB (k : Nat) (s : Sta) (c n : Int) : Bool := inK k c && decide (0 ≤ n ∧ n ≤ s.now)
def pinS (k : Nat) (s : Sta) (c n : Int) : Sta := if pinB k s c n = true then { s with pin := updA s.pin c.toNat n } else s
def unpS (k : Nat) (s : Sta) (c : Int) : Sta := if inK k c = true then { s with pin := updA s.pin c.toNat (-1) } else s
def advB (s : Sta) (n : Int) : Bool := decide (s.now = n)
def advS (s : Sta) (n : Int) : Sta := if advB s n = true then { s with now := s.now + 1 } else s
noncomputable def retV (k : Nat) (s : Sta) (c r : Int) : Int := if (goodB r && inK k c) = true then (if s.lim ≤ (s.wt c.toNat).length then 2 else 0) else 1
noncomputable def retS (k : Nat) (s : Sta) (c r : Int) : Sta := if retV k s c r = 0 then { s with wt := updA s.wt c.toNat (s.wt c.toNat ++ [(r, s.now)]) } else s
/-- The first that waits, if it may go. -/
def colO (k : Nat) (s : Sta) (c : Int) : Option Int := if inK k c = true then (match s.wt c.toNat with | [] => none | p :: _ => if p.2 + 2 ≤ s.now then some p.1 else none) else none
def colS (k : Nat) (s : Sta) (c : Int) : Sta := if (colO k s c).isSome = true then { s with wt := updA s.wt c.toNat ((s.wt c.toNat).drop 1) } else s
def pinV (k : Nat) (s : Sta) (c : Int) : Int := if inK k c = true then s.pin c.toNat else -1
def limV (k : Nat) (s : Sta) (c : Int) : Int := if inK k c = true then (s.wt c.toNat).length else 0
/-- Small enough. -/
structure Sml (k : Nat) (s : Sta) : Prop where
  n0 : 0 ≤ s.now
  n9 : s.now ≤ 1000
  l9 : s.lim ≤ 64
  bd : ∀ j, j < k → ∀ p ∈ s.wt j, 0 ≤ p.2 ∧ p.2 ≤ s.now
  ln : ∀ j, j < k → (s.wt j).length ≤ 64
section
variable {D m : Nat} {G : Nat → Int} {W : World} {E R Q A B k : Nat} {s u : Sta} {V : Bool × Nat → Value} {w w' : World}
set_option maxRecDepth 100000 in
set_option maxHeartbeats 400000 in
theorem has_yes (h : Both D m G W E R Q A B k s u V w) (j : Nat) (hj : j < k) : Calls Try.prog 26 #[.pointer (some ⟨E, 0, none⟩), .int .i64 j] w fun e w' => e = .returned (.bool true) ∧ w' = w := by
  have h2 := h.c2
  have hj1 : (j : Int) < k := by omega
  have hj0 : (0 : Int) ≤ j := by omega
  clear h
  go_enter Try.func26, Try.ntmps26
  go_wp2
  go_ret
  exact ⟨rfl, rfl⟩
set_option maxRecDepth 100000 in
set_option maxHeartbeats 400000 in
theorem has_no (h : Both D m G W E R Q A B k s u V w) (c : Int) (hc : c < 0 ∨ k ≤ c) : Calls Try.prog 26 #[.pointer (some ⟨E, 0, none⟩), .int .i64 c] w fun e w' => e = .returned (.bool false) ∧ w' = w := by
  have h2 := h.c2
  clear h
  rcases hc with hc | hc
  · have hj0 : ¬ (0 : Int) ≤ c := by omega
    go_enter Try.func26, Try.ntmps26
    go_wp2
    go_ret
    exact ⟨rfl, rfl⟩
  · have hj0 : (0 : Int) ≤ c := by omega
    have hj1 : ¬ c < (k : Int) := by omega
    go_enter Try.func26, Try.ntmps26
    go_wp2
    go_ret
    exact ⟨rfl, rfl⟩
theorem has_any (h : Both D m G W E R Q A B k s u V w) (c : Int) : Calls Try.prog 26 #[.pointer (some ⟨E, 0, none⟩), .int .i64 c] w fun e w' => e = .returned (.bool (inK k c)) ∧ w' = w := by
  rcases inK_or k c with ⟨j, rfl, hj⟩ | hc
  · rw [inK_yes hj]; exact has_yes h j hj
  · rw [inK_no hc]; exact has_no h c hc
set_option maxRecDepth 100000 in
set_option maxHeartbeats 400000 in
theorem now_any (h : Both D m G W E R Q A B k s u V w) : Calls Try.prog 11 #[.pointer (some ⟨E, 0, none⟩)] w fun e w' => e = .returned (.int .i64 s.now) ∧ w' = w := by
  have h0 := h.c0.1
  clear h
  go_enter Try.func11, Try.ntmps11
  go_wp2
  go_ret
  exact ⟨rfl, rfl⟩
set_option maxRecDepth 100000 in
set_option maxHeartbeats 400000 in
theorem pin_any (h : Both D m G W E R Q A B k s u V w) (c n : Int) : Calls Try.prog 16 #[.pointer (some ⟨E, 0, none⟩), .int .i64 c, .int .i64 n] w fun e w' => e = .returned (.bool (pinB k s c n)) ∧ Both D m G W E R Q A B k (pinS k s c n) u V w' := by
  rcases inK_or k c with ⟨j, rfl, hj⟩ | hc
  · by_cases h0 : 0 ≤ n
    · by_cases h9 : n ≤ s.now
      · have e1 : pinB k s (j : Int) n = true := by unfold pinB; rw [inK_yes hj, decide_eq_true ⟨h0, h9⟩]; rfl
        have e2 : pinS k s (j : Int) n = { s with pin := updA s.pin j n } := by unfold pinS; rw [if_pos e1, Int.toNat_natCast]
        rw [e1, e2]
        have c0 := h.c0.1
        have c2 := h.c2
        obtain ⟨c3, f3⟩ := h.c3 hj
        have hj1 : (j : Int) < k := by omega
        have hj0 : (0 : Int) ≤ j := by omega
        have HF := Lib.hid (h.pin0 hj n)
        have HH := Lib.hid h
        clear h e1 e2
        generalize s.pin j = q at *
        generalize s.now = nw at *
        go_enter Try.func16, Try.ntmps16
        go_wp2_with (first
          | (go_at_call 26; refine (has_yes HH.out j hj).mono ?_; rintro e w2 ⟨rfl, rfl⟩)
          | fail)
        go_ret
        exact ⟨rfl, HF.out⟩
      · have e1 : pinB k s (j : Int) n = false := by unfold pinB; rw [decide_eq_false (by omega)]; simp
        have e2 : pinS k s (j : Int) n = s := by unfold pinS; rw [e1]; rfl
        rw [e1, e2]
        have c0 := h.c0.1
        have HH := Lib.hid h
        clear h e1 e2
        generalize hnw : s.now = nw at c0 h9
        clear hnw
        go_enter Try.func16, Try.ntmps16
        go_wp2_with (first
          | (go_at_call 26; refine (has_yes HH.out j hj).mono ?_; rintro e w2 ⟨rfl, rfl⟩)
          | fail)
        go_ret
        exact ⟨rfl, HH.out⟩
    · have e1 : pinB k s (j : Int) n = false := by unfold pinB; rw [decide_eq_false (by omega)]; simp
      have e2 : pinS k s (j : Int) n = s := by unfold pinS; rw [e1]; rfl
      rw [e1, e2]
      have HH := Lib.hid h
      clear h e1 e2
      go_enter Try.func16, Try.ntmps16
      go_wp2_with (first
        | (go_at_call 26; refine (has_yes HH.out j hj).mono ?_; rintro e w2 ⟨rfl, rfl⟩)
        | fail)
      go_ret
      exact ⟨rfl, HH.out⟩
  · have e1 : pinB k s c n = false := by unfold pinB; rw [inK_no hc]; rfl
    have e2 : pinS k s c n = s := by unfold pinS; rw [e1]; rfl
    rw [e1, e2]
    have HH := Lib.hid h
    have HC := Lib.hid hc
    clear h e1 e2 hc
    go_enter Try.func16, Try.ntmps16
    go_wp2_with (first
      | (go_at_call 26; refine (has_no HH.out c HC.out).mono ?_; rintro e w2 ⟨rfl, rfl⟩)
      | fail)
    go_ret
    exact ⟨rfl, HH.out⟩
set_option maxRecDepth 100000 in
set_option maxHeartbeats 400000 in
theorem unpin_any (h : Both D m G W E R Q A B k s u V w) (c : Int) : Calls Try.prog 18 #[.pointer (some ⟨E, 0, none⟩), .int .i64 c] w fun e w' => e = .returned (.bool (inK k c)) ∧ Both D m G W E R Q A B k (unpS k s c) u V w' := by
  rcases inK_or k c with ⟨j, rfl, hj⟩ | hc
  · have e2 : unpS k s (j : Int) = { s with pin := updA s.pin j (-1) } := by unfold unpS; rw [if_pos (inK_yes hj), Int.toNat_natCast]
    rw [inK_yes hj, e2]
    have c2 := h.c2
    obtain ⟨c3, f3⟩ := h.c3 hj
    have hj1 : (j : Int) < k := by omega
    have hj0 : (0 : Int) ≤ j := by omega
    have HF := Lib.hid (h.pin0 hj (-1))
    have HH := Lib.hid h
    clear h e2
    generalize s.pin j = q at *
    go_enter Try.func18, Try.ntmps18
    go_wp2_with (first
      | (go_at_call 26; refine (has_yes HH.out j hj).mono ?_; rintro e w2 ⟨rfl, rfl⟩)
      | fail)
    go_ret
    exact ⟨rfl, HF.out⟩
  · have e2 : unpS k s c = s := by unfold unpS; rw [inK_no hc]; rfl
    rw [inK_no hc, e2]
    have HH := Lib.hid h
    have HC := Lib.hid hc
    clear h e2 hc
    go_enter Try.func18, Try.ntmps18
    go_wp2_with (first
      | (go_at_call 26; refine (has_no HH.out c HC.out).mono ?_; rintro e w2 ⟨rfl, rfl⟩)
      | fail)
    go_ret
    exact ⟨rfl, HH.out⟩
set_option maxRecDepth 100000 in
set_option maxHeartbeats 400000 in
theorem adv_any (h : Both D m G W E R Q A B k s u V w) (hs : Sml k s) (n : Int) : Calls Try.prog 10 #[.pointer (some ⟨E, 0, none⟩), .int .i64 n] w fun e w' => e = .returned (.bool (advB s n)) ∧ Both D m G W E R Q A B k (advS s n) u V w' := by
  have n0 := hs.n0
  have n9 := hs.n9
  have HF := Lib.hid (h.now0 (s.now + 1))
  obtain ⟨c0, f0⟩ := h.c0
  by_cases hn : s.now = n
  · have e1 : advB s n = true := decide_eq_true hn
    have e2 : advS s n = { s with now := s.now + 1 } := by unfold advS; rw [e1]; rfl
    rw [e1, e2]
    have hg : ¬ s.now ≥ 1073741824 := by omega
    subst hn
    have HH := Lib.hid h
    clear h e1 e2 hs
    generalize s.now = nw at *
    go_enter Try.func10, Try.ntmps10
    go_wp2
    go_ret
    exact ⟨rfl, HF.out⟩
  · have e1 : advB s n = false := decide_eq_false hn
    have e2 : advS s n = s := by unfold advS; rw [e1]; rfl
    rw [e1, e2]
    have hd : (s.now == n) = false := by simpa using hn
    have hd2 : (s.now != n) = true := by simpa using hn
    have HH := Lib.hid h
    clear h e1 e2 hs hn HF
    generalize s.now = nw at *
    go_enter Try.func10, Try.ntmps10
    go_wp2
    go_ret
    exact ⟨rfl, HH.out⟩
set_option maxRecDepth 100000 in
set_option maxHeartbeats 400000 in
theorem pinOf_any (h : Both D m G W E R Q A B k s u V w) (c : Int) : Calls Try.prog 24 #[.pointer (some ⟨E, 0, none⟩), .int .i64 c] w fun e w' => e = .returned (.int .i64 (pinV k s c)) ∧ w' = w := by
  rcases inK_or k c with ⟨j, rfl, hj⟩ | hc
  · have e2 : pinV k s (j : Int) = s.pin j := by unfold pinV; rw [if_pos (inK_yes hj), Int.toNat_natCast]
    rw [e2]
    have c2 := h.c2
    have c3 := (h.c3 hj).1
    have hj1 : (j : Int) < k := by omega
    have hj0 : (0 : Int) ≤ j := by omega
    have HH := Lib.hid h
    clear h e2
    generalize s.pin j = q at *
    go_enter Try.func24, Try.ntmps24
    go_wp2_with (first
      | (go_at_call 26; refine (has_yes HH.out j hj).mono ?_; rintro e w2 ⟨rfl, rfl⟩)
      | fail)
    go_ret
    exact ⟨rfl, rfl⟩
  · have e2 : pinV k s c = -1 := by unfold pinV; rw [inK_no hc]; rfl
    rw [e2]
    have HH := Lib.hid h
    have HC := Lib.hid hc
    clear h e2 hc
    go_enter Try.func24, Try.ntmps24
    go_wp2_with (first
      | (go_at_call 26; refine (has_no HH.out c HC.out).mono ?_; rintro e w2 ⟨rfl, rfl⟩)
      | fail)
    go_ret
    exact ⟨rfl, rfl⟩
set_option maxRecDepth 100000 in
set_option maxHeartbeats 400000 in
theorem limbo_any (h : Both D m G W E R Q A B k s u V w) (c : Int) : Calls Try.prog 13 #[.pointer (some ⟨E, 0, none⟩), .int .i64 c] w fun e w' => e = .returned (.int .i64 (limV k s c)) ∧ w' = w := by
  rcases inK_or k c with ⟨j, rfl, hj⟩ | hc
  · have e2 : limV k s (j : Int) = (s.wt j).length := by unfold limV; rw [if_pos (inK_yes hj), Int.toNat_natCast]
    rw [e2]
    obtain ⟨A', c', hV⟩ := (h.row0 hj).form
    have c2 := h.c2
    have c4 := (h.c4 hj).1
    rw [hV] at c4
    have hj1 : (j : Int) < k := by omega
    have hj0 : (0 : Int) ≤ j := by omega
    have HH := Lib.hid h
    clear h e2 hV
    generalize (s.wt j).length = L at *
    go_enter Try.func13, Try.ntmps13
    go_wp2_with (first
      | (go_at_call 26; refine (has_yes HH.out j hj).mono ?_; rintro e w2 ⟨rfl, rfl⟩)
      | fail)
    go_ret
    exact ⟨rfl, rfl⟩
  · have e2 : limV k s c = 0 := by unfold limV; rw [inK_no hc]; rfl
    rw [e2]
    have HH := Lib.hid h
    have HC := Lib.hid hc
    clear h e2 hc
    go_enter Try.func13, Try.ntmps13
    go_wp2_with (first
      | (go_at_call 26; refine (has_no HH.out c HC.out).mono ?_; rintro e w2 ⟨rfl, rfl⟩)
      | fail)
    go_ret
    exact ⟨rfl, rfl⟩
end
end Go.Proofs.Ytafedpphecfgnaa
