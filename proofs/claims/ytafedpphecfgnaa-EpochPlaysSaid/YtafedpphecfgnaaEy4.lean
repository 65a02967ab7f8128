/-
  The calls on the document's own epochs: each answer, and what it turns; conditions: sizes.
-/
import Derived.Test.YtafedpphecfgnaaEy3
import Derived.StillTailTactics
namespace Go.Proofs.Ytafedpphecfgnaa
open Go.RowKit Go.WideShapes Go.ChangeShapes
set_option linter.all false
attribute [local go_sem ↓] Go.wp_at_zero Go.wp_at_succ
theorem info64 : (Try.prog.info? 64).map (fun i => (i.zero, i.size, i.bytes)) = some (some (.agg #[.int .i64 0, .int .i64 0]), 2, 16) := by kernel_rfl
section
variable {D m : Nat} {G : Nat → Int} {W : World} {E R Q A B k : Nat} {s u : Sta} {V : Bool × Nat → Value} {w w' : World}
set_option maxRecDepth 100000 in
set_option maxHeartbeats 400000 in
theorem cli_yes (h : Both D m G W E R Q A B k s u V w) (j : Nat) (hj : j < k) : Calls Try.prog 23 #[.pointer (some ⟨Q, 0, none⟩), .int .i64 j] w fun e w' => e = .returned (.bool true) ∧ w' = w := by
  have h2 := h.c7
  have hj1 : (j : Int) < k := by omega
  have hj0 : (0 : Int) ≤ j := by omega
  clear h
  go_enter Try.func23, Try.ntmps23
  go_wp2
  go_ret
  exact ⟨rfl, rfl⟩
set_option maxRecDepth 100000 in
set_option maxHeartbeats 400000 in
theorem cli_no (h : Both D m G W E R Q A B k s u V w) (c : Int) (hc : c < 0 ∨ k ≤ c) : Calls Try.prog 23 #[.pointer (some ⟨Q, 0, none⟩), .int .i64 c] w fun e w' => e = .returned (.bool false) ∧ w' = w := by
  have h2 := h.c7
  clear h
  rcases hc with hc | hc
  · have hj0 : ¬ (0 : Int) ≤ c := by omega
    go_enter Try.func23, Try.ntmps23
    go_wp2
    go_ret
    exact ⟨rfl, rfl⟩
  · have hj0 : (0 : Int) ≤ c := by omega
    have hj1 : ¬ c < (k : Int) := by omega
    go_enter Try.func23, Try.ntmps23
    go_wp2
    go_ret
    exact ⟨rfl, rfl⟩
theorem cli_any (h : Both D m G W E R Q A B k s u V w) (c : Int) : Calls Try.prog 23 #[.pointer (some ⟨Q, 0, none⟩), .int .i64 c] w fun e w' => e = .returned (.bool (inK k c)) ∧ w' = w := by
  rcases inK_or k c with ⟨j, rfl, hj⟩ | hc
  · rw [inK_yes hj]; exact cli_yes h j hj
  · rw [inK_no hc]; exact cli_no h c hc
set_option maxRecDepth 100000 in
set_option maxHeartbeats 400000 in
theorem rpin_any (h : Both D m G W E R Q A B k s u V w) (c n : Int) : Calls Try.prog 17 #[.pointer (some ⟨Q, 0, none⟩), .int .i64 c, .int .i64 n] w fun e w' => e = .returned (.bool (pinB k u c n)) ∧ Both D m G W E R Q A B k s (pinS k u c n) V w' := by
  rcases inK_or k c with ⟨j, rfl, hj⟩ | hc
  · by_cases h0 : 0 ≤ n
    · by_cases h9 : n ≤ u.now
      · have e1 : pinB k u (j : Int) n = true := by unfold pinB; rw [inK_yes hj, decide_eq_true ⟨h0, h9⟩]; rfl
        have e2 : pinS k u (j : Int) n = { u with pin := updA u.pin j n } := by unfold pinS; rw [if_pos e1, Int.toNat_natCast]
        rw [e1, e2]
        have c0 := h.c5.1
        have c2 := h.c7
        obtain ⟨c3, f3⟩ := h.c9 hj
        have hj1 : (j : Int) < k := by omega
        have hj0 : (0 : Int) ≤ j := by omega
        have HF := Lib.hid (h.pin1 hj n)
        have HH := Lib.hid h
        clear h e1 e2
        generalize u.pin j = q at *
        generalize u.now = nw at *
        go_enter Try.func17, Try.ntmps17
        go_wp2_with (first
          | (go_at_call 23; refine (cli_yes HH.out j hj).mono ?_; rintro e w2 ⟨rfl, rfl⟩)
          | fail)
        go_ret
        exact ⟨rfl, HF.out⟩
      · have e1 : pinB k u (j : Int) n = false := by unfold pinB; rw [decide_eq_false (by omega)]; simp
        have e2 : pinS k u (j : Int) n = u := by unfold pinS; rw [e1]; rfl
        rw [e1, e2]
        have c0 := h.c5.1
        have HH := Lib.hid h
        clear h e1 e2
        generalize hnw : u.now = nw at c0 h9
        clear hnw
        go_enter Try.func17, Try.ntmps17
        go_wp2_with (first
          | (go_at_call 23; refine (cli_yes HH.out j hj).mono ?_; rintro e w2 ⟨rfl, rfl⟩)
          | fail)
        go_ret
        exact ⟨rfl, HH.out⟩
    · have e1 : pinB k u (j : Int) n = false := by unfold pinB; rw [decide_eq_false (by omega)]; simp
      have e2 : pinS k u (j : Int) n = u := by unfold pinS; rw [e1]; rfl
      rw [e1, e2]
      have HH := Lib.hid h
      clear h e1 e2
      go_enter Try.func17, Try.ntmps17
      go_wp2_with (first
        | (go_at_call 23; refine (cli_yes HH.out j hj).mono ?_; rintro e w2 ⟨rfl, rfl⟩)
        | fail)
      go_ret
      exact ⟨rfl, HH.out⟩
  · have e1 : pinB k u c n = false := by unfold pinB; rw [inK_no hc]; rfl
    have e2 : pinS k u c n = u := by unfold pinS; rw [e1]; rfl
    rw [e1, e2]
    have HH := Lib.hid h
    have HC := Lib.hid hc
    clear h e1 e2 hc
    go_enter Try.func17, Try.ntmps17
    go_wp2_with (first
      | (go_at_call 23; refine (cli_no HH.out c HC.out).mono ?_; rintro e w2 ⟨rfl, rfl⟩)
      | fail)
    go_ret
    exact ⟨rfl, HH.out⟩
set_option maxRecDepth 100000 in
set_option maxHeartbeats 400000 in
theorem runpin_any (h : Both D m G W E R Q A B k s u V w) (c : Int) : Calls Try.prog 19 #[.pointer (some ⟨Q, 0, none⟩), .int .i64 c] w fun e w' => e = .returned (.bool (inK k c)) ∧ Both D m G W E R Q A B k s (unpS k u c) V w' := by
  rcases inK_or k c with ⟨j, rfl, hj⟩ | hc
  · have e2 : unpS k u (j : Int) = { u with pin := updA u.pin j (-1) } := by unfold unpS; rw [if_pos (inK_yes hj), Int.toNat_natCast]
    rw [inK_yes hj, e2]
    have c2 := h.c7
    obtain ⟨c3, f3⟩ := h.c9 hj
    have hj1 : (j : Int) < k := by omega
    have hj0 : (0 : Int) ≤ j := by omega
    have HF := Lib.hid (h.pin1 hj (-1))
    have HH := Lib.hid h
    clear h e2
    generalize u.pin j = q at *
    go_enter Try.func19, Try.ntmps19
    go_wp2_with (first
      | (go_at_call 23; refine (cli_yes HH.out j hj).mono ?_; rintro e w2 ⟨rfl, rfl⟩)
      | fail)
    go_ret
    exact ⟨rfl, HF.out⟩
  · have e2 : unpS k u c = u := by unfold unpS; rw [inK_no hc]; rfl
    rw [inK_no hc, e2]
    have HH := Lib.hid h
    have HC := Lib.hid hc
    clear h e2 hc
    go_enter Try.func19, Try.ntmps19
    go_wp2_with (first
      | (go_at_call 23; refine (cli_no HH.out c HC.out).mono ?_; rintro e w2 ⟨rfl, rfl⟩)
      | fail)
    go_ret
    exact ⟨rfl, HH.out⟩
set_option maxRecDepth 100000 in
set_option maxHeartbeats 400000 in
theorem radv_any (h : Both D m G W E R Q A B k s u V w) (hs : Sml k u) (n : Int) : Calls Try.prog 20 #[.pointer (some ⟨Q, 0, none⟩), .int .i64 n] w fun e w' => e = .returned (.bool (advB u n)) ∧ Both D m G W E R Q A B k s (advS u n) V w' := by
  have n0 := hs.n0
  have n9 := hs.n9
  have HF := Lib.hid (h.now1 (u.now + 1))
  obtain ⟨c0, f0⟩ := h.c5
  by_cases hn : u.now = n
  · have e1 : advB u n = true := decide_eq_true hn
    have e2 : advS u n = { u with now := u.now + 1 } := by unfold advS; rw [e1]; rfl
    rw [e1, e2]
    have hg : ¬ u.now ≥ 1073741824 := by omega
    subst hn
    have HH := Lib.hid h
    clear h e1 e2 hs
    generalize u.now = nw at *
    go_enter Try.func20, Try.ntmps20
    go_wp2
    go_ret
    exact ⟨rfl, HF.out⟩
  · have e1 : advB u n = false := decide_eq_false hn
    have e2 : advS u n = u := by unfold advS; rw [e1]; rfl
    rw [e1, e2]
    have hd : (u.now == n) = false := by simpa using hn
    have hd2 : (u.now != n) = true := by simpa using hn
    have HH := Lib.hid h
    clear h e1 e2 hs hn HF
    generalize u.now = nw at *
    go_enter Try.func20, Try.ntmps20
    go_wp2
    go_ret
    exact ⟨rfl, HH.out⟩
set_option maxRecDepth 100000 in
set_option maxHeartbeats 800000 in
theorem rretire_bad (h : Both D m G W E R Q A B k s u V w) (c r : Int) (hg : (goodB r && inK k c) = false) : Calls Try.prog 21 #[.pointer (some ⟨Q, 0, none⟩), .int .i64 c, .int .i64 r] w fun e w' => e = .returned (.int .i64 1) ∧ Both D m G W E R Q A B k s u V w' := by
  have HH := Lib.hid h
  have HK : Hid (goodB r = true → inK k c = false) := Lib.hid (fun e => by rw [e] at hg; simpa using hg)
  have HP := Lib.hid (fun w => rparts_any r w)
  clear h hg
  cases hgb : goodB r with
  | false =>
    have HG := Lib.hid hgb
    clear hgb
    go_enter Try.func21, Try.ntmps21
    go_wp2_with (first
      | (go_at_call 27; refine (HP.out _).mono ?_; rintro e w1 ⟨rfl, a, b, l, rfl⟩; rw [HG.out])
      | fail)
    go_ret
    exact ⟨rfl, HH.out⟩
  | true =>
    have HG := Lib.hid hgb
    have HK2 := Lib.hid (HK.out hgb)
    clear hgb HK
    go_enter Try.func21, Try.ntmps21
    go_wp2_with (first
      | (go_at_call 27; refine (HP.out _).mono ?_; rintro e w1 ⟨rfl, a, b, l, rfl⟩; rw [HG.out])
      | (go_at_call 23; refine (cli_any HH.out c).mono ?_; rintro e w2 ⟨rfl, rfl⟩; rw [HK2.out])
      | fail)
    go_ret
    exact ⟨rfl, HH.out⟩
set_option maxRecDepth 100000 in
set_option maxHeartbeats 800000 in
theorem rretire_full2 (h : Both D m G W E R Q A B k s u V w) (j : Nat) (hj : j < k) (r : Int) (hg : goodB r = true) (hl : u.lim ≤ (u.wt j).length) : Calls Try.prog 21 #[.pointer (some ⟨Q, 0, none⟩), .int .i64 j, .int .i64 r] w fun e w' => e = .returned (.int .i64 2) ∧ Both D m G W E R Q A B k s u V w' := by
  obtain ⟨A', c', hV⟩ := (h.row1 hj).form
  have c1 := h.c6
  have c2 := h.c8
  have c4 := (h.c10 hj).1
  rw [hV] at c4
  have hj1 : (j : Int) < k := by omega
  have hj0 : (0 : Int) ≤ j := by omega
  have HP := Lib.hid (fun w => rparts_any r w)
  have HG := Lib.hid hg
  have HF := Lib.hid h.drew
  have HH := Lib.hid h
  clear h hV hg
  generalize (u.wt j).length = L at *
  generalize hli : u.lim = li at c1 hl
  clear hli
  go_enter Try.func21, Try.ntmps21
  go_wp2_with (first
    | (go_at_call 27; refine (HP.out _).mono ?_; rintro e w1 ⟨rfl, a, b, l, rfl⟩; rw [HG.out])
    | (go_at_call 23; refine (cli_yes HH.out j hj).mono ?_; rintro e w2 ⟨rfl, rfl⟩)
    | fail)
  go_region_held3 (fun w' => w'.cell? ⟨B, j, none⟩ = some (.slice A' L c') ∧ w'.cell? ⟨Q, 1, none⟩ = some (.int .i64 li) ∧ w'.cell? ⟨Q, 3, none⟩ = some (.slice (some ⟨B, 0, none⟩) k k)) (go_keep) (fail)
  all_goals
    go_wp2
    go_ret
    exact ⟨rfl, HF.out⟩
set_option maxRecDepth 100000 in
set_option maxHeartbeats 1600000 in
theorem rretire_ok2 (h : Both D m G W E R Q A B k s u V w) (j : Nat) (hj : j < k) (r : Int) (hg : goodB r = true) (hl : (u.wt j).length < u.lim) (hl9 : u.lim ≤ 1000) :
    Calls Try.prog 21 #[.pointer (some ⟨Q, 0, none⟩), .int .i64 j, .int .i64 r] w fun e w' => e = .returned (.int .i64 0) ∧ ∃ V', Both D m G W E R Q A B k s { u with wt := updA u.wt j (u.wt j ++ [(r, u.now)]) } V' w' := by
  obtain ⟨i0, hi0, hz0, hz1, hz2⟩ := info_parts info64
  obtain ⟨A', c', hV⟩ := (h.row1 hj).form
  have c0 := h.c5.1
  have c1 := h.c6
  have c2 := h.c8
  obtain ⟨c4, f4⟩ := h.c10 hj
  have hm0 := h.row1 hj
  have hne := h.ne1 hj
  have lR : B < w.heap.size := h.lt 10 j (ok1 (by omega) hj)
  have lQ : Q < w.heap.size := h.lt 8 0 (ok0 (by omega))
  have hnq : some Q ≠ (V (true, j)).ownBlock := fun e => Hp.off h (8, 0) (ok0 (by omega)) (true, j) hj e.symm
  have hsz := h.bel.size
  rw [hV] at c4 hm0 hne hnq
  have hj1 : (j : Int) < k := by omega
  have hj0 : (0 : Int) ≤ j := by omega
  have HP := Lib.hid (fun w => rparts_any r w)
  have HG := Lib.hid hg
  have HH := Lib.hid h
  have HV := Lib.hid hV
  have HM := Lib.hid hm0
  have HN := Lib.hid hne
  have HNQ := Lib.hid hnq
  have hF : ∀ (w1 : World) (v' : Value), Ran (V (true, j)) v' w w1 → Mid w1 W.heap.size 64 2 v' (u.wt j ++ [(r, u.now)]).length (prs (u.wt j ++ [(r, u.now)])) → Both D m G W E R Q A B k s { u with wt := updA u.wt j (u.wt j ++ [(r, u.now)]) } (updA V (true, j) v') (w1.setCell ⟨B, j, none⟩ v') := fun w1 v' a b => h.list1 hj a b
  have HF := Lib.hid hF
  generalize hL : (u.wt j).length = L at *
  have HL := Lib.hid hL
  generalize hli : u.lim = li at *
  generalize hno : u.now = no at *
  clear h hV hg hm0 hne hnq hF hL hli hno
  have hl1 : ¬ ((L : Int) ≥ li) := by omega
  go_enter Try.func21, Try.ntmps21
  go_wp2_with (first
    | (go_at_call 27; refine (HP.out _).mono ?_; rintro e w1 ⟨rfl, a, b, l, rfl⟩; rw [HG.out])
    | (go_at_call 23; refine (cli_yes HH.out j hj).mono ?_; rintro e w2 ⟨rfl, rfl⟩)
    | fail)
  go_region_held3 (fun w' => w'.cell? ⟨B, j, none⟩ = some (.slice A' L c') ∧ w'.cell? ⟨Q, 1, none⟩ = some (.int .i64 li) ∧ w'.cell? ⟨Q, 3, none⟩ = some (.slice (some ⟨B, 0, none⟩) k k)) (go_keep) (fail)
  all_goals
    go_wp2
    have hcv : ∀ o : Obj, (w2.alloc o).drew.drew.cell? ⟨B, j, none⟩ = some (.slice A' L c') := fun o => (World.cell?_alloc_lt w2 o ⟨B, j, none⟩ lR).trans c4
    have hqv : ∀ o : Obj, (w2.alloc o).drew.drew.cell? ⟨Q, 3, none⟩ = some (.slice (some ⟨B, 0, none⟩) k k) := fun o => (World.cell?_alloc_lt w2 o ⟨Q, 3, none⟩ lQ).trans c2
    have HQV := Lib.hid hqv
    clear hqv
    have hfv : ∀ o : Obj, (w2.alloc o).drew.drew.frozen? ⟨B, j, none⟩ = false := fun o => (((Below.refl w2.heap.size w2).alloc (Nat.le_refl _) o).frozen (p := ⟨B, j, none⟩) lR).trans f4
    have HCV := Lib.hid hcv
    have HFV := Lib.hid hfv
    clear hcv hfv
    go_region_law
      (refine step_append_mid (by rfl) _ _ _ (by rfl) W.heap.size 64 i0 _ 2 16 Try.underlying50 hi0 hz0 hz1 hz2 rfl (by omega) (.slice A' L c') L (prs (u.wt j)) (by rfl) (HM.out.same fun g hg => Below.heap_alloc w2 _ g (HM.out.lt g hg).2)
          ⟨w2.heap.size, 0, none⟩ 1 1 [.int .i64 r, .int .i64 no] (by rfl) (by rfl) (World.news_of_block (cs := #[.int .i64 r, .int .i64 no]) (t := 64) (fr := (0, 0)) (heap_alloc_new w2 _)) (by simp [Value.oneCell']) (by unfold maxLen; omega) (by omega) (by simp; omega) ?_
       intro v' w3 hm hran
       obtain ⟨A'', c'', rfl⟩ := hm.form
       have hc1 : w3.cell? ⟨B, j, none⟩ = some (.slice A' L c') := (hran.grown.cell_far _ (by simp; omega) HN.out).trans (HCV.out _)
       have hq1 : w3.cell? ⟨Q, 3, none⟩ = some (.slice (some ⟨B, 0, none⟩) k k) := (hran.grown.cell_far _ (by simp; omega) HNQ.out).trans (HQV.out _)
       have hf1 : w3.frozen? ⟨B, j, none⟩ = false := (hran.grown.frozen_far _ (by simp; omega) HN.out).trans (HFV.out _))
    all_goals
      have HMm := Lib.hid hm
      have HRn := Lib.hid hran
      clear hm hran
      go_wp2
      go_ret
      have hr2 : Ran (V (true, j)) (.slice A'' (L + 1) c'') w2 w3 := by
        rw [HV.out]
        refine ⟨⟨HRn.out.grown.os, HRn.out.grown.tape, HRn.out.grown.output, by have := HRn.out.grown.size; simp at this; omega, fun b hb hr => (HRn.out.grown.block b (by simp; omega) hr).trans (Below.heap_alloc w2 _ b hb)⟩, HRn.out.at_.imp id fun h g hg => by have := h g hg; simp at this; omega⟩
      have hm2 : Mid w3 W.heap.size 64 2 (.slice A'' (L + 1) c'') (u.wt j ++ [(r, no)]).length (prs (u.wt j ++ [(r, no)])) := by
        rw [List.length_append, HL.out, prs_append]; exact HMm.out
      exact ⟨rfl, _, HF.out _ _ hr2 hm2⟩
theorem rretire_any (h : Both D m G W E R Q A B k s u V w) (hs : Sml k u) (c r : Int) : Calls Try.prog 21 #[.pointer (some ⟨Q, 0, none⟩), .int .i64 c, .int .i64 r] w fun e w' => e = .returned (.int .i64 (retV k u c r)) ∧ ∃ V', Both D m G W E R Q A B k s (retS k u c r) V' w' := by
  by_cases hg : (goodB r && inK k c) = true
  · rw [Bool.and_eq_true] at hg
    rcases inK_or k c with ⟨j, rfl, hj⟩ | hc
    · by_cases hl : u.lim ≤ (u.wt j).length
      · have e1 : retV k u (j : Int) r = 2 := by unfold retV; rw [if_pos (by rw [hg.1, hg.2]; rfl), Int.toNat_natCast, if_pos hl]
        have e2 : retS k u (j : Int) r = u := by unfold retS; rw [e1]; rfl
        rw [e1, e2]
        exact (rretire_full2 h j hj r hg.1 hl).mono fun e w' h' => ⟨h'.1, _, h'.2⟩
      · have e1 : retV k u (j : Int) r = 0 := by unfold retV; rw [if_pos (by rw [hg.1, hg.2]; rfl), Int.toNat_natCast, if_neg hl]
        have e2 : retS k u (j : Int) r = { u with wt := updA u.wt j (u.wt j ++ [(r, u.now)]) } := by unfold retS; rw [e1, Int.toNat_natCast]; rfl
        rw [e1, e2]
        exact rretire_ok2 h j hj r hg.1 (by omega) (by have := hs.l9; omega)
    · rw [inK_no hc] at hg; simp at hg
  · have e1 : retV k u c r = 1 := by unfold retV; rw [if_neg hg]
    have e2 : retS k u c r = u := by unfold retS; rw [e1]; rfl
    rw [e1, e2]
    exact (rretire_bad h c r (by simpa using hg)).mono fun e w' h' => ⟨h'.1, _, h'.2⟩
end
end Go.Proofs.Ytafedpphecfgnaa
