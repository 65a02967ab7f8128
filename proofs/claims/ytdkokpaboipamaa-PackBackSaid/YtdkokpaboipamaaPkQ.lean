/-
  The law PackBack at any text; no condition beyond lengths that fit an int.
-/
import Derived.Test.YtdkokpaboipamaaPkP
namespace Go.Proofs.Ytdkokpaboipamaa
open Go.RowKit Go.WideShapes Go.ChangeShapes
set_option linter.all false
set_option maxHeartbeats 6400000 in
theorem back0t (s0 s Z : ByteArray) (cut : Int) (k : Nat) (runs : ∀ w, Calls Try.prog 17 #[] w fun e w' => e = .returned (.bool true) ∧ Below w.heap.size w w')
    (hwi : ∀ w, Calls Try.prog 18 #[.int .i64 cut, .int .i64 0, .int .i64 s.size] w fun e w' => e = .returned (.int .i64 k) ∧ w = w') (hk : k ≤ s.size) (hnt : Hid (ntB s k s.size = true))
    (hZ : Hid (zs s = Z)) (hz1 : Z.size = 8 * cnt s.size) (hz2 : Z.extract 0 s.size = s) (w : World)
    (HX : True) (hs0 : True) (hs : s.size ≤ 200) :
    Calls Try.prog 4 #[.string s, .int .i64 cut] w fun e w' => e = .returned (.bool true) ∧ Below w.heap.size w w' := by
  have hs' : ¬ (200 : Int) < s.size := by omega
  have hcn : cnt s.size ≤ 200 := by unfold cnt; omega
  have hcg := cnt_ge s.size
  have HC : Hid (cntI (s.size : Int) = (cnt s.size : Int)) := cntI_cnt _
  have F1 : Hid True := trivial
  have F2 : Hid True := trivial
  have F3 : Hid True := trivial
  go_enter Try.func4, Try.ntmps4
  go_wp2_with (first
    | (go_at_call 13; refine (pwords_any s _ (by omega)).mono ?_; rintro e w1 ⟨rfl, ho1, hb1⟩; have hw1 := own_wb ho1; clear ho1; unfold sl)
    | (go_at_call 10; clear F1; refine (pbytes_any _ _ _ s.size (ws s) _ (hw1.whole (ws_len s)) (by omega) hcg).mono ?_; rintro e w2 ⟨rfl, hb2⟩; rw [ws_zf s _ (Nat.le_refl _), ntB_self, bytesV_t, ws_str s _ (Nat.le_refl _), ext_all])
    | (go_at_call 15; refine (countI_any _ _ (by omega)).mono ?_; rintro e w' ⟨rfl, rfl⟩; rw [HC.out])
    | (go_at_call 18; refine (hwi _).mono ?_; rintro e w' ⟨rfl, rfl⟩)
    | fail)
  go_loop [9, 10] (fun o i => ∃ j : Nat, k ≤ j ∧ j ≤ s.size ∧ i = .int .i64 j ∧ o = .bool (ntB s k j)) (fun _ i => s.size - (intOf i).toNat)
  case atStart => exact ⟨k, Nat.le_refl _, hk, rfl, by rw [ntB_self]⟩
  case round =>
    obtain ⟨j, hj1, hj, rfl, rfl⟩ := hrel
    by_cases hl : j < s.size
    · have hstep := ntB_succ s k j hj1 hl
      cases hn : ntB s k j with
      | true =>
        rw [hn, Bool.true_and] at hstep
        cases hq : ((s[j]'hl) == 0) with
        | true =>
          rw [hq] at hstep
          have h58 : (((s[j]'hl).toNat : Int) == 0) = true := by
            have : s[j] = 0 := by simpa using hq
            rw [this]; rfl
          go_wp2
          all_goals (go_round; (case rel => exact ⟨j + 1, by omega, by omega, by go_num, by rw [hstep]⟩); (case measure => simp only [intOf]; omega))
        | false =>
          rw [hq] at hstep
          have h58 : (((s[j]'hl).toNat : Int) == 0) = false := by
            have h0 : s[j] ≠ 0 := by simpa using hq
            have : s[j].toNat ≠ 0 := fun e => h0 (UInt8.toNat_inj.1 e)
            simpa using this
          go_wp2
          all_goals (go_round; (case rel => exact ⟨j + 1, by omega, by omega, by go_num, by rw [hstep]⟩); (case measure => simp only [intOf]; omega))
      | false =>
        rw [hn, Bool.false_and] at hstep
        go_wp2
        all_goals (go_round; (case rel => exact ⟨j + 1, by omega, by omega, by go_num, by rw [hstep]⟩); (case measure => simp only [intOf]; omega))
    · have hjj : j = s.size := by omega
      subst hjj
      rw [hnt.out]
      go_wp2_with (first
        | (go_at_call 10; clear F2; refine (pbytes_any _ _ _ k (ws s) _ ((hw1.on hb2).whole (ws_len s)) (by omega) (by omega)).mono ?_; rintro e w3 ⟨rfl, hb3⟩; rw [ws_zf s _ hk, hnt.out, bytesV_t, ws_str s _ hk])
        | (go_at_call 10; clear F3; refine (pbytes_all _ _ _ (ws s) _ ((hw1.on (after hb2 hb3)).whole (ws_len s)) (by omega)).mono ?_; rintro e w4 ⟨rfl, hb4⟩; rw [ws_zf_all, bytesV_t, show strOfNums (bt (ws s) (8 * cnt s.size) (8 * cnt s.size)) = Z from hZ.out])
        | (go_at_call 10; refine (pbytes_bad _ _ _ _ _ (by omega) (by omega)).mono ?_; rintro e w5 ⟨rfl, rfl⟩; unfold badV)
        | (go_at_call 17; refine (runs _).mono ?_; rintro e w6 ⟨rfl, hb6⟩)
        | fail)
      go_ret
      exact ⟨rfl, after (after (after (after hb1 hb2) hb3) hb4) hb6⟩
set_option maxHeartbeats 6400000 in
theorem back0f (s0 s Z : ByteArray) (cut : Int) (k : Nat) (runs : ∀ w, Calls Try.prog 17 #[] w fun e w' => e = .returned (.bool true) ∧ Below w.heap.size w w')
    (hwi : ∀ w, Calls Try.prog 18 #[.int .i64 cut, .int .i64 0, .int .i64 s.size] w fun e w' => e = .returned (.int .i64 k) ∧ w = w') (hk : k ≤ s.size) (hnt : Hid (ntB s k s.size = false))
    (hZ : Hid (zs s = Z)) (hz1 : Z.size = 8 * cnt s.size) (hz2 : Z.extract 0 s.size = s) (w : World)
    (HX : True) (hs0 : True) (hs : s.size ≤ 200) :
    Calls Try.prog 4 #[.string s, .int .i64 cut] w fun e w' => e = .returned (.bool true) ∧ Below w.heap.size w w' := by
  have hs' : ¬ (200 : Int) < s.size := by omega
  have hcn : cnt s.size ≤ 200 := by unfold cnt; omega
  have hcg := cnt_ge s.size
  have HC : Hid (cntI (s.size : Int) = (cnt s.size : Int)) := cntI_cnt _
  have F1 : Hid True := trivial
  have F2 : Hid True := trivial
  have F3 : Hid True := trivial
  go_enter Try.func4, Try.ntmps4
  go_wp2_with (first
    | (go_at_call 13; refine (pwords_any s _ (by omega)).mono ?_; rintro e w1 ⟨rfl, ho1, hb1⟩; have hw1 := own_wb ho1; clear ho1; unfold sl)
    | (go_at_call 10; clear F1; refine (pbytes_any _ _ _ s.size (ws s) _ (hw1.whole (ws_len s)) (by omega) hcg).mono ?_; rintro e w2 ⟨rfl, hb2⟩; rw [ws_zf s _ (Nat.le_refl _), ntB_self, bytesV_t, ws_str s _ (Nat.le_refl _), ext_all])
    | (go_at_call 15; refine (countI_any _ _ (by omega)).mono ?_; rintro e w' ⟨rfl, rfl⟩; rw [HC.out])
    | (go_at_call 18; refine (hwi _).mono ?_; rintro e w' ⟨rfl, rfl⟩)
    | fail)
  go_loop [9, 10] (fun o i => ∃ j : Nat, k ≤ j ∧ j ≤ s.size ∧ i = .int .i64 j ∧ o = .bool (ntB s k j)) (fun _ i => s.size - (intOf i).toNat)
  case atStart => exact ⟨k, Nat.le_refl _, hk, rfl, by rw [ntB_self]⟩
  case round =>
    obtain ⟨j, hj1, hj, rfl, rfl⟩ := hrel
    by_cases hl : j < s.size
    · have hstep := ntB_succ s k j hj1 hl
      cases hn : ntB s k j with
      | true =>
        rw [hn, Bool.true_and] at hstep
        cases hq : ((s[j]'hl) == 0) with
        | true =>
          rw [hq] at hstep
          have h58 : (((s[j]'hl).toNat : Int) == 0) = true := by
            have : s[j] = 0 := by simpa using hq
            rw [this]; rfl
          go_wp2
          all_goals (go_round; (case rel => exact ⟨j + 1, by omega, by omega, by go_num, by rw [hstep]⟩); (case measure => simp only [intOf]; omega))
        | false =>
          rw [hq] at hstep
          have h58 : (((s[j]'hl).toNat : Int) == 0) = false := by
            have h0 : s[j] ≠ 0 := by simpa using hq
            have : s[j].toNat ≠ 0 := fun e => h0 (UInt8.toNat_inj.1 e)
            simpa using this
          go_wp2
          all_goals (go_round; (case rel => exact ⟨j + 1, by omega, by omega, by go_num, by rw [hstep]⟩); (case measure => simp only [intOf]; omega))
      | false =>
        rw [hn, Bool.false_and] at hstep
        go_wp2
        all_goals (go_round; (case rel => exact ⟨j + 1, by omega, by omega, by go_num, by rw [hstep]⟩); (case measure => simp only [intOf]; omega))
    · have hjj : j = s.size := by omega
      subst hjj
      rw [hnt.out]
      go_wp2_with (first
        | (go_at_call 10; clear F2; refine (pbytes_any _ _ _ k (ws s) _ ((hw1.on hb2).whole (ws_len s)) (by omega) (by omega)).mono ?_; rintro e w3 ⟨rfl, hb3⟩; rw [ws_zf s _ hk, hnt.out, bytesV_f])
        | (go_at_call 10; clear F3; refine (pbytes_all _ _ _ (ws s) _ ((hw1.on (after hb2 hb3)).whole (ws_len s)) (by omega)).mono ?_; rintro e w4 ⟨rfl, hb4⟩; rw [ws_zf_all, bytesV_t, show strOfNums (bt (ws s) (8 * cnt s.size) (8 * cnt s.size)) = Z from hZ.out])
        | (go_at_call 10; refine (pbytes_bad _ _ _ _ _ (by omega) (by omega)).mono ?_; rintro e w5 ⟨rfl, rfl⟩; unfold badV)
        | (go_at_call 17; refine (runs _).mono ?_; rintro e w6 ⟨rfl, hb6⟩)
        | fail)
      go_ret
      exact ⟨rfl, after (after (after (after hb1 hb2) hb3) hb4) hb6⟩
set_option maxHeartbeats 6400000 in
theorem back1t (s0 s Z : ByteArray) (cut : Int) (k : Nat) (runs : ∀ w, Calls Try.prog 17 #[] w fun e w' => e = .returned (.bool true) ∧ Below w.heap.size w w')
    (hwi : ∀ w, Calls Try.prog 18 #[.int .i64 cut, .int .i64 0, .int .i64 s.size] w fun e w' => e = .returned (.int .i64 k) ∧ w = w') (hk : k ≤ s.size) (hnt : Hid (ntB s k s.size = true))
    (hZ : Hid (zs s = Z)) (hz1 : Z.size = 8 * cnt s.size) (hz2 : Z.extract 0 s.size = s) (w : World)
    (HX : Hid (s = s0.extract 0 200)) (hs0 : (200 : Int) < s0.size) (hs : s.size ≤ 200) :
    Calls Try.prog 4 #[.string s0, .int .i64 cut] w fun e w' => e = .returned (.bool true) ∧ Below w.heap.size w w' := by
  have hs2 : (200 : Int) ≤ s0.size := by omega
  have hcn : cnt s.size ≤ 200 := by unfold cnt; omega
  have hcg := cnt_ge s.size
  have HC : Hid (cntI (s.size : Int) = (cnt s.size : Int)) := cntI_cnt _
  have F1 : Hid True := trivial
  have F2 : Hid True := trivial
  have F3 : Hid True := trivial
  go_enter Try.func4, Try.ntmps4
  go_wp2_with (first
    | (go_at_call 13; rw [← HX.out]; refine (pwords_any s _ (by omega)).mono ?_; rintro e w1 ⟨rfl, ho1, hb1⟩; have hw1 := own_wb ho1; clear ho1; unfold sl)
    | (go_at_call 10; clear F1; refine (pbytes_any _ _ _ s.size (ws s) _ (hw1.whole (ws_len s)) (by omega) hcg).mono ?_; rintro e w2 ⟨rfl, hb2⟩; rw [ws_zf s _ (Nat.le_refl _), ntB_self, bytesV_t, ws_str s _ (Nat.le_refl _), ext_all])
    | (go_at_call 15; refine (countI_any _ _ (by omega)).mono ?_; rintro e w' ⟨rfl, rfl⟩; rw [HC.out])
    | (go_at_call 18; refine (hwi _).mono ?_; rintro e w' ⟨rfl, rfl⟩)
    | fail)
  go_loop [9, 10] (fun o i => ∃ j : Nat, k ≤ j ∧ j ≤ s.size ∧ i = .int .i64 j ∧ o = .bool (ntB s k j)) (fun _ i => s.size - (intOf i).toNat)
  case atStart => exact ⟨k, Nat.le_refl _, hk, rfl, by rw [ntB_self]⟩
  case round =>
    obtain ⟨j, hj1, hj, rfl, rfl⟩ := hrel
    by_cases hl : j < s.size
    · have hstep := ntB_succ s k j hj1 hl
      cases hn : ntB s k j with
      | true =>
        rw [hn, Bool.true_and] at hstep
        cases hq : ((s[j]'hl) == 0) with
        | true =>
          rw [hq] at hstep
          have h58 : (((s[j]'hl).toNat : Int) == 0) = true := by
            have : s[j] = 0 := by simpa using hq
            rw [this]; rfl
          go_wp2
          all_goals (go_round; (case rel => exact ⟨j + 1, by omega, by omega, by go_num, by rw [hstep]⟩); (case measure => simp only [intOf]; omega))
        | false =>
          rw [hq] at hstep
          have h58 : (((s[j]'hl).toNat : Int) == 0) = false := by
            have h0 : s[j] ≠ 0 := by simpa using hq
            have : s[j].toNat ≠ 0 := fun e => h0 (UInt8.toNat_inj.1 e)
            simpa using this
          go_wp2
          all_goals (go_round; (case rel => exact ⟨j + 1, by omega, by omega, by go_num, by rw [hstep]⟩); (case measure => simp only [intOf]; omega))
      | false =>
        rw [hn, Bool.false_and] at hstep
        go_wp2
        all_goals (go_round; (case rel => exact ⟨j + 1, by omega, by omega, by go_num, by rw [hstep]⟩); (case measure => simp only [intOf]; omega))
    · have hjj : j = s.size := by omega
      subst hjj
      rw [hnt.out]
      go_wp2_with (first
        | (go_at_call 10; clear F2; refine (pbytes_any _ _ _ k (ws s) _ ((hw1.on hb2).whole (ws_len s)) (by omega) (by omega)).mono ?_; rintro e w3 ⟨rfl, hb3⟩; rw [ws_zf s _ hk, hnt.out, bytesV_t, ws_str s _ hk])
        | (go_at_call 10; clear F3; refine (pbytes_all _ _ _ (ws s) _ ((hw1.on (after hb2 hb3)).whole (ws_len s)) (by omega)).mono ?_; rintro e w4 ⟨rfl, hb4⟩; rw [ws_zf_all, bytesV_t, show strOfNums (bt (ws s) (8 * cnt s.size) (8 * cnt s.size)) = Z from hZ.out])
        | (go_at_call 10; refine (pbytes_bad _ _ _ _ _ (by omega) (by omega)).mono ?_; rintro e w5 ⟨rfl, rfl⟩; unfold badV)
        | (go_at_call 17; refine (runs _).mono ?_; rintro e w6 ⟨rfl, hb6⟩)
        | fail)
      go_ret
      exact ⟨rfl, after (after (after (after hb1 hb2) hb3) hb4) hb6⟩
set_option maxHeartbeats 6400000 in
theorem back1f (s0 s Z : ByteArray) (cut : Int) (k : Nat) (runs : ∀ w, Calls Try.prog 17 #[] w fun e w' => e = .returned (.bool true) ∧ Below w.heap.size w w')
    (hwi : ∀ w, Calls Try.prog 18 #[.int .i64 cut, .int .i64 0, .int .i64 s.size] w fun e w' => e = .returned (.int .i64 k) ∧ w = w') (hk : k ≤ s.size) (hnt : Hid (ntB s k s.size = false))
    (hZ : Hid (zs s = Z)) (hz1 : Z.size = 8 * cnt s.size) (hz2 : Z.extract 0 s.size = s) (w : World)
    (HX : Hid (s = s0.extract 0 200)) (hs0 : (200 : Int) < s0.size) (hs : s.size ≤ 200) :
    Calls Try.prog 4 #[.string s0, .int .i64 cut] w fun e w' => e = .returned (.bool true) ∧ Below w.heap.size w w' := by
  have hs2 : (200 : Int) ≤ s0.size := by omega
  have hcn : cnt s.size ≤ 200 := by unfold cnt; omega
  have hcg := cnt_ge s.size
  have HC : Hid (cntI (s.size : Int) = (cnt s.size : Int)) := cntI_cnt _
  have F1 : Hid True := trivial
  have F2 : Hid True := trivial
  have F3 : Hid True := trivial
  go_enter Try.func4, Try.ntmps4
  go_wp2_with (first
    | (go_at_call 13; rw [← HX.out]; refine (pwords_any s _ (by omega)).mono ?_; rintro e w1 ⟨rfl, ho1, hb1⟩; have hw1 := own_wb ho1; clear ho1; unfold sl)
    | (go_at_call 10; clear F1; refine (pbytes_any _ _ _ s.size (ws s) _ (hw1.whole (ws_len s)) (by omega) hcg).mono ?_; rintro e w2 ⟨rfl, hb2⟩; rw [ws_zf s _ (Nat.le_refl _), ntB_self, bytesV_t, ws_str s _ (Nat.le_refl _), ext_all])
    | (go_at_call 15; refine (countI_any _ _ (by omega)).mono ?_; rintro e w' ⟨rfl, rfl⟩; rw [HC.out])
    | (go_at_call 18; refine (hwi _).mono ?_; rintro e w' ⟨rfl, rfl⟩)
    | fail)
  go_loop [9, 10] (fun o i => ∃ j : Nat, k ≤ j ∧ j ≤ s.size ∧ i = .int .i64 j ∧ o = .bool (ntB s k j)) (fun _ i => s.size - (intOf i).toNat)
  case atStart => exact ⟨k, Nat.le_refl _, hk, rfl, by rw [ntB_self]⟩
  case round =>
    obtain ⟨j, hj1, hj, rfl, rfl⟩ := hrel
    by_cases hl : j < s.size
    · have hstep := ntB_succ s k j hj1 hl
      cases hn : ntB s k j with
      | true =>
        rw [hn, Bool.true_and] at hstep
        cases hq : ((s[j]'hl) == 0) with
        | true =>
          rw [hq] at hstep
          have h58 : (((s[j]'hl).toNat : Int) == 0) = true := by
            have : s[j] = 0 := by simpa using hq
            rw [this]; rfl
          go_wp2
          all_goals (go_round; (case rel => exact ⟨j + 1, by omega, by omega, by go_num, by rw [hstep]⟩); (case measure => simp only [intOf]; omega))
        | false =>
          rw [hq] at hstep
          have h58 : (((s[j]'hl).toNat : Int) == 0) = false := by
            have h0 : s[j] ≠ 0 := by simpa using hq
            have : s[j].toNat ≠ 0 := fun e => h0 (UInt8.toNat_inj.1 e)
            simpa using this
          go_wp2
          all_goals (go_round; (case rel => exact ⟨j + 1, by omega, by omega, by go_num, by rw [hstep]⟩); (case measure => simp only [intOf]; omega))
      | false =>
        rw [hn, Bool.false_and] at hstep
        go_wp2
        all_goals (go_round; (case rel => exact ⟨j + 1, by omega, by omega, by go_num, by rw [hstep]⟩); (case measure => simp only [intOf]; omega))
    · have hjj : j = s.size := by omega
      subst hjj
      rw [hnt.out]
      go_wp2_with (first
        | (go_at_call 10; clear F2; refine (pbytes_any _ _ _ k (ws s) _ ((hw1.on hb2).whole (ws_len s)) (by omega) (by omega)).mono ?_; rintro e w3 ⟨rfl, hb3⟩; rw [ws_zf s _ hk, hnt.out, bytesV_f])
        | (go_at_call 10; clear F3; refine (pbytes_all _ _ _ (ws s) _ ((hw1.on (after hb2 hb3)).whole (ws_len s)) (by omega)).mono ?_; rintro e w4 ⟨rfl, hb4⟩; rw [ws_zf_all, bytesV_t, show strOfNums (bt (ws s) (8 * cnt s.size) (8 * cnt s.size)) = Z from hZ.out])
        | (go_at_call 10; refine (pbytes_bad _ _ _ _ _ (by omega) (by omega)).mono ?_; rintro e w5 ⟨rfl, rfl⟩; unfold badV)
        | (go_at_call 17; refine (runs _).mono ?_; rintro e w6 ⟨rfl, hb6⟩)
        | fail)
      go_ret
      exact ⟨rfl, after (after (after (after hb1 hb2) hb3) hb4) hb6⟩
end Go.Proofs.Ytdkokpaboipamaa
