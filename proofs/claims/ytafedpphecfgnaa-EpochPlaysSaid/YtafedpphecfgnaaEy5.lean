/-
  Collect of the document's own epochs; conditions: sizes.
-/
import Derived.Test.YtafedpphecfgnaaEy4
namespace Go.Proofs.Ytafedpphecfgnaa
open Go.RowKit Go.WideShapes Go.ChangeShapes
set_option linter.all false
attribute [local go_sem ↓] Go.wp_at_zero Go.wp_at_succ
section
variable {D m : Nat} {G : Nat → Int} {W : World} {E R Q A B k : Nat} {s u : Sta} {V : Bool × Nat → Value} {w w' : World}
set_option maxRecDepth 100000 in
set_option maxHeartbeats 400000 in
theorem rcol_no (h : Both D m G W E R Q A B k s u V w) (c : Int) (hc : c < 0 ∨ k ≤ c) : Calls Try.prog 22 #[.pointer (some ⟨Q, 0, none⟩), .int .i64 c] w fun e w' => e = .returned (.tuple #[.int .i64 0, .bool false]) ∧ Both D m G W E R Q A B k s u V w' := by
  have HH := Lib.hid h
  have HC := Lib.hid hc
  clear h hc
  go_enter Try.func22, Try.ntmps22
  go_wp2
  go_quiet ((go_at_call 23; exact Calls.quiet_of_same (cli_no (HH.out.below (below_drewN _ _)) c HC.out)))
  go_wp2
  go_ret2
  exact ⟨rfl, HH.out.below (below_drewN _ _)⟩
set_option maxRecDepth 100000 in
set_option maxHeartbeats 400000 in
theorem rcol_empty (h : Both D m G W E R Q A B k s u V w) (j : Nat) (hj : j < k) (hx : u.wt j = []) : Calls Try.prog 22 #[.pointer (some ⟨Q, 0, none⟩), .int .i64 j] w fun e w' => e = .returned (.tuple #[.int .i64 0, .bool false]) ∧ Both D m G W E R Q A B k s u V w' := by
  obtain ⟨A', c', hV⟩ := (h.row1 hj).form
  have c2 := h.c8
  have c4 := (h.c10 hj).1
  rw [hV, hx] at c4
  simp only [List.length_nil] at c4
  have hj1 : (j : Int) < k := by omega
  have hj0 : (0 : Int) ≤ j := by omega
  have HH := Lib.hid h
  clear h hV hx
  go_enter Try.func22, Try.ntmps22
  go_wp2
  go_quiet ((go_at_call 23; exact Calls.quiet_of_same (cli_yes (HH.out.below (below_drewN _ _)) j hj)))
  go_wp2
  go_ret2
  exact ⟨rfl, HH.out.below (below_drewN _ _)⟩
set_option maxRecDepth 100000 in
set_option maxHeartbeats 800000 in
theorem rcol_early (h : Both D m G W E R Q A B k s u V w) (hs : Sml k u) (j : Nat) (hj : j < k) (r at_ : Int) (xs : List (Int × Int)) (hx : u.wt j = (r, at_) :: xs) (hn : ¬ at_ + 2 ≤ u.now) :
    Calls Try.prog 22 #[.pointer (some ⟨Q, 0, none⟩), .int .i64 j] w fun e w' => e = .returned (.tuple #[.int .i64 0, .bool false]) ∧ Both D m G W E R Q A B k s u V w' := by
  obtain ⟨A', c', hV⟩ := (h.row1 hj).form
  have hm := h.row1 hj
  have c0 := h.c5.1
  have c2 := h.c8
  have c4 := (h.c10 hj).1
  rw [hV, hx] at c4 hm
  have hb := hs.bd j hj (r, at_) (by rw [hx]; exact List.mem_cons_self)
  have ha0 : 0 ≤ at_ := hb.1
  have ha9 : at_ ≤ u.now := hb.2
  have hn0 := hs.n0
  have hn9 := hs.n9
  have hl9 : xs.length ≤ 1000 := by have := hs.ln j hj; rw [hx] at this; simp at this; omega
  rcases hm.2 with ⟨h', h0⟩ | ⟨g, off, cap, cur, h', _⟩
  · simp at h0
  · simp only [Value.slice.injEq, true_and] at h'
    obtain ⟨rfl, rfl⟩ := h'
    have k0 := hm.cells 0 _ rfl
    have k1 := hm.cells 1 _ rfl
    simp only [List.length_cons] at c4
    rw [Nat.add_zero] at k0
    generalize xs.length = L at *
    generalize u.now = now at *
    have hj1 : (j : Int) < k := by omega
    have hj0 : (0 : Int) ≤ j := by omega
    have hlp : (0 : Int) < (L : Int) + 1 := by omega
    have hln : ((L : Int) + 1 == 0) = false := by simp; omega
    have hd : decide (now < at_ + 2) = true := decide_eq_true (by omega)
    have hd2 : decide (at_ + 2 > now) = true := decide_eq_true (by omega)
    have HH := Lib.hid h
    have HW : Hid (IntKind.i64.wrap (at_ + 2) = at_ + 2) := Lib.hid (IntWalk.i64_in _ (by omega))
    clear h hV hx hm hs hb
    go_enter Try.func22, Try.ntmps22
    go_wp2
    have hw := HW.out
    go_quiet ((go_at_call 23; exact Calls.quiet_of_same (cli_yes (HH.out.below (below_drewN _ _)) j hj)))
    clear hw
    go_wp2
    go_ret2
    exact ⟨rfl, HH.out.below (below_drewN _ _)⟩
set_option maxRecDepth 100000 in
set_option maxHeartbeats 1600000 in
theorem rcol_ok (h : Both D m G W E R Q A B k s u V w) (hs : Sml k u) (j : Nat) (hj : j < k) (r at_ : Int) (xs : List (Int × Int)) (hx : u.wt j = (r, at_) :: xs) (hn : at_ + 2 ≤ u.now) :
    Calls Try.prog 22 #[.pointer (some ⟨Q, 0, none⟩), .int .i64 j] w fun e w' => e = .returned (.tuple #[.int .i64 r, .bool true]) ∧ ∃ V', Both D m G W E R Q A B k s { u with wt := updA u.wt j xs } V' w' := by
  obtain ⟨A', c', hV⟩ := (h.row1 hj).form
  have hm := h.row1 hj
  have c0 := h.c5.1
  have c2 := h.c8
  obtain ⟨c4, f4⟩ := h.c10 hj
  rw [hV, hx] at c4 hm
  have hb := hs.bd j hj (r, at_) (by rw [hx]; exact List.mem_cons_self)
  have ha0 : 0 ≤ at_ := hb.1
  have ha9 : at_ ≤ u.now := hb.2
  have hn0 := hs.n0
  have hn9 := hs.n9
  have hl9 : xs.length ≤ 1000 := by have := hs.ln j hj; rw [hx] at this; simp at this; omega
  rcases hm.2 with ⟨h', h0⟩ | ⟨g, off, cap, cur, h', _⟩
  · simp at h0
  · simp only [Value.slice.injEq, true_and] at h'
    obtain ⟨rfl, rfl⟩ := h'
    have k0 := hm.cells 0 _ rfl
    have k1 := hm.cells 1 _ rfl
    simp only [List.length_cons] at c4
    rw [Nat.add_zero] at k0
    have hcap : xs.length + 1 ≤ c' := by
      rcases hm.2 with ⟨h', _⟩ | ⟨g', off', cap', cur', h', _, _, hnc, _⟩
      · simp at h'
      · simp only [Value.slice.injEq, true_and] at h'
        obtain ⟨_, rfl⟩ := h'
        simpa using hnc
    have hcut := hm.cut (k := 1) (by simp)
    have e1 : ((r, at_) :: xs).length - 1 = xs.length := by simp
    have e2 : (prs ((r, at_) :: xs)).drop (1 * 2) = prs xs := rfl
    rw [e1, e2] at hcut
    have hset : ∀ n, Both D m G W E R Q A B k s { u with wt := updA u.wt j xs } _ (((w.drewN n).drew).setCell ⟨B, j, none⟩ (.slice (if c' = 1 then some ⟨g, off, none⟩ else (some (⟨g, off, none⟩ : Addr)).map (·.add (1 * 2))) xs.length (c' - 1))) := fun n => by
      refine h.list1 hj ⟨⟨rfl, rfl, rfl, Nat.le_refl _, fun _ _ _ => rfl⟩, .inl ?_⟩ (hcut.same fun _ _ => rfl)
      rw [hV]
      split <;> rfl
    have HS := Lib.hid hset
    clear hset hcut e1 e2
    generalize hLL : xs.length = L at *
    generalize hno : u.now = now at *
    have hj1 : (j : Int) < k := by omega
    have hj0 : (0 : Int) ≤ j := by omega
    have hlp : (0 : Int) < (L : Int) + 1 := by omega
    have hln : ((L : Int) + 1 == 0) = false := by simp; omega
    have hd : decide (now < at_ + 2) = false := decide_eq_false (by omega)
    have hd2 : decide (at_ + 2 > now) = false := decide_eq_false (by omega)
    have HH := Lib.hid h
    have HW : Hid (IntKind.i64.wrap (at_ + 2) = at_ + 2) := Lib.hid (IntWalk.i64_in _ (by omega))
    clear h hV hx hm hLL hno hs hb
    have hlq : (1 : Int) ≤ (L : Int) + 1 := by omega
    by_cases hc1 : c' = 1
    · subst hc1
      obtain rfl : L = 0 := by omega
      go_enter Try.func22, Try.ntmps22
      go_wp2
      have hw := HW.out
      go_quiet ((go_at_call 23; exact Calls.quiet_of_same (cli_yes (HH.out.below (below_drewN _ _)) j hj)))
      clear hw
      go_wp2
      refine wp_region_still_tail 14 (by kernel_rfl) (by kernel_rfl) ?_
      simp only [List.take_succ_cons, List.take_zero, List.drop_succ_cons, List.drop_zero]
      refine (show wpStill Try.prog _ ((w.drewN nq).drew) (fun a' => wpList Try.prog _ _ _ a' ((w.drewN nq).drew)) _ _ from ?_)
      repeat still_step
      refine wpStill_nil ?_
      go_wp2
      go_ret2
      exact ⟨rfl, _, HS.out nq⟩
    · go_enter Try.func22, Try.ntmps22
      go_wp2
      have hw := HW.out
      go_quiet ((go_at_call 23; exact Calls.quiet_of_same (cli_yes (HH.out.below (below_drewN _ _)) j hj)))
      clear hw
      go_wp2
      refine wp_region_still_tail 14 (by kernel_rfl) (by kernel_rfl) ?_
      simp only [List.take_succ_cons, List.take_zero, List.drop_succ_cons, List.drop_zero]
      refine (show wpStill Try.prog _ ((w.drewN nq).drew) (fun a' => wpList Try.prog _ _ _ a' ((w.drewN nq).drew)) _ _ from ?_)
      repeat still_step
      refine wpStill_nil ?_
      go_wp2
      go_ret2
      exact ⟨rfl, _, by have := HS.out nq; rw [if_neg hc1] at this; exact this⟩
theorem rcol_any (h : Both D m G W E R Q A B k s u V w) (hs : Sml k u) (c : Int) : Calls Try.prog 22 #[.pointer (some ⟨Q, 0, none⟩), .int .i64 c] w fun e w' => e = .returned (colR (colO k u c)) ∧ ∃ V', Both D m G W E R Q A B k s (colS k u c) V' w' := by
  rcases inK_or k c with ⟨j, rfl, hj⟩ | hc
  · rcases col_split u j hj with ⟨hx, e1, e2⟩ | ⟨r, a, xs, hx, hn, e1, e2⟩ | ⟨r, a, xs, hx, hn, e1, e2⟩
    · rw [e1, e2]; exact (rcol_empty h j hj hx).mono fun e w' h' => ⟨h'.1, _, h'.2⟩
    · rw [e1, e2]; exact (rcol_early h hs j hj r a xs hx hn).mono fun e w' h' => ⟨h'.1, _, h'.2⟩
    · rw [e1, e2]; exact rcol_ok h hs j hj r a xs hx hn
  · obtain ⟨e1, e2⟩ := col_none (k := k) u c hc
    rw [e1, e2]; exact (rcol_no h c hc).mono fun e w' h' => ⟨h'.1, _, h'.2⟩
end
end Go.Proofs.Ytafedpphecfgnaa
