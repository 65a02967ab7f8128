/-
  Retire and Collect of the program's epochs; conditions: sizes.
-/
import Derived.Test.YtafedpphecfgnaaEy2
import Derived.Deep.QuietTactic
import Derived.BigQuiet
namespace Go.Proofs.Ytafedpphecfgnaa
open Go.RowKit Go.WideShapes Go.ChangeShapes
set_option linter.all false
attribute [local go_sem ↓] Go.wp_at_zero Go.wp_at_succ
section
variable {D m : Nat} {G : Nat → Int} {W : World} {E R Q A B k : Nat} {s u : Sta} {V : Bool × Nat → Value} {w w' : World}
theorem Both.ne0 (h : Both D m G W E R Q A B k s u V w) {j : Nat} (hj : j < k) : some R ≠ (V (false, j)).ownBlock := fun e => Hp.off h (4, j) (ok1 (by omega) hj) (false, j) hj e.symm
theorem Both.ne1 (h : Both D m G W E R Q A B k s u V w) {j : Nat} (hj : j < k) : some B ≠ (V (true, j)).ownBlock := fun e => Hp.off h (10, j) (ok1 (by omega) hj) (true, j) hj e.symm
theorem Both.bel (h : Both D m G W E R Q A B k s u V w) : Below W.heap.size W w := Hp.bel h
set_option maxRecDepth 100000 in
set_option maxHeartbeats 800000 in
theorem retire_bad (h : Both D m G W E R Q A B k s u V w) (c r : Int) (hg : (goodB r && inK k c) = false) : Calls Try.prog 8 #[.pointer (some ⟨E, 0, none⟩), .int .i64 c, .int .i64 r] w fun e w' => e = .returned (.int .i64 1) ∧ Both D m G W E R Q A B k s u V w' := by
  have HH := Lib.hid h
  have HK : Hid (goodB r = true → inK k c = false) := Lib.hid (fun e => by rw [e] at hg; simpa using hg)
  have HP := Lib.hid (fun w => wparts_any r w)
  clear h hg
  cases hgb : goodB r with
  | false =>
    have HG := Lib.hid hgb
    clear hgb
    go_enter Try.func8, Try.ntmps8
    go_wp2_with (first
      | (go_at_call 25; refine (HP.out _).mono ?_; rintro e w1 ⟨rfl, a, b, l, rfl⟩; rw [HG.out])
      | fail)
    go_ret
    exact ⟨rfl, HH.out⟩
  | true =>
    have HG := Lib.hid hgb
    have HK2 := Lib.hid (HK.out hgb)
    clear hgb HK
    go_enter Try.func8, Try.ntmps8
    go_wp2_with (first
      | (go_at_call 25; refine (HP.out _).mono ?_; rintro e w1 ⟨rfl, a, b, l, rfl⟩; rw [HG.out])
      | (go_at_call 26; refine (has_any HH.out c).mono ?_; rintro e w2 ⟨rfl, rfl⟩; rw [HK2.out])
      | fail)
    go_ret
    exact ⟨rfl, HH.out⟩
set_option maxRecDepth 100000 in
set_option maxHeartbeats 800000 in
theorem retire_full2 (h : Both D m G W E R Q A B k s u V w) (j : Nat) (hj : j < k) (r : Int) (hg : goodB r = true) (hl : s.lim ≤ (s.wt j).length) : Calls Try.prog 8 #[.pointer (some ⟨E, 0, none⟩), .int .i64 j, .int .i64 r] w fun e w' => e = .returned (.int .i64 2) ∧ Both D m G W E R Q A B k s u V w' := by
  obtain ⟨A', c', hV⟩ := (h.row0 hj).form
  have c1 := h.c1
  have c2 := h.c2
  have c4 := (h.c4 hj).1
  rw [hV] at c4
  have hj1 : (j : Int) < k := by omega
  have hj0 : (0 : Int) ≤ j := by omega
  have HP := Lib.hid (fun w => wparts_any r w)
  have HG := Lib.hid hg
  have HF := Lib.hid h.drew
  have HH := Lib.hid h
  clear h hV hg
  generalize (s.wt j).length = L at *
  generalize hli : s.lim = li at c1 hl
  clear hli
  go_enter Try.func8, Try.ntmps8
  go_wp2_with (first
    | (go_at_call 25; refine (HP.out _).mono ?_; rintro e w1 ⟨rfl, a, b, l, rfl⟩; rw [HG.out])
    | (go_at_call 26; refine (has_yes HH.out j hj).mono ?_; rintro e w2 ⟨rfl, rfl⟩)
    | fail)
  go_region_held3 (fun w' => w'.cell? ⟨R, j * 2 + 1, none⟩ = some (.slice A' L c') ∧ w'.cell? ⟨E, 1, none⟩ = some (.int .i64 li)) (go_keep) (fail)
  all_goals
    go_wp2
    go_ret
    exact ⟨rfl, HF.out⟩
set_option maxRecDepth 100000 in
set_option maxHeartbeats 1600000 in
theorem retire_ok2 (h : Both D m G W E R Q A B k s u V w) (j : Nat) (hj : j < k) (r : Int) (hg : goodB r = true) (hl : (s.wt j).length < s.lim) (hl9 : s.lim ≤ 1000) :
    Calls Try.prog 8 #[.pointer (some ⟨E, 0, none⟩), .int .i64 j, .int .i64 r] w fun e w' => e = .returned (.int .i64 0) ∧ ∃ V', Both D m G W E R Q A B k { s with wt := updA s.wt j (s.wt j ++ [(r, s.now)]) } u V' w' := by
  obtain ⟨i0, hi0, hz0, hz1, hz2⟩ := info_parts info61
  obtain ⟨A', c', hV⟩ := (h.row0 hj).form
  have c0 := h.c0.1
  have c1 := h.c1
  have c2 := h.c2
  obtain ⟨c4, f4⟩ := h.c4 hj
  have hm0 := h.row0 hj
  have hne := h.ne0 hj
  have lR : R < w.heap.size := h.lt 4 j (ok1 (by omega) hj)
  have hsz := h.bel.size
  rw [hV] at c4 hm0 hne
  have hj1 : (j : Int) < k := by omega
  have hj0 : (0 : Int) ≤ j := by omega
  have HP := Lib.hid (fun w => wparts_any r w)
  have HG := Lib.hid hg
  have HH := Lib.hid h
  have HV := Lib.hid hV
  have HM := Lib.hid hm0
  have HN := Lib.hid hne
  have hF : ∀ (w1 : World) (v' : Value), Ran (V (false, j)) v' w w1 → Mid w1 W.heap.size 61 2 v' (s.wt j ++ [(r, s.now)]).length (prs (s.wt j ++ [(r, s.now)])) → Both D m G W E R Q A B k { s with wt := updA s.wt j (s.wt j ++ [(r, s.now)]) } u (updA V (false, j) v') (w1.setCell ⟨R, j * 2 + 1, none⟩ v') := fun w1 v' a b => h.list0 hj a b
  have HF := Lib.hid hF
  generalize hL : (s.wt j).length = L at *
  have HL := Lib.hid hL
  generalize hli : s.lim = li at *
  generalize hno : s.now = no at *
  clear h hV hg hm0 hne hF hL hli hno
  have hl1 : ¬ ((L : Int) ≥ li) := by omega
  go_enter Try.func8, Try.ntmps8
  go_wp2_with (first
    | (go_at_call 25; refine (HP.out _).mono ?_; rintro e w1 ⟨rfl, a, b, l, rfl⟩; rw [HG.out])
    | (go_at_call 26; refine (has_yes HH.out j hj).mono ?_; rintro e w2 ⟨rfl, rfl⟩)
    | fail)
  go_region_held3 (fun w' => w'.cell? ⟨R, j * 2 + 1, none⟩ = some (.slice A' L c') ∧ w'.cell? ⟨E, 1, none⟩ = some (.int .i64 li)) (go_keep) (fail)
  all_goals
    go_wp2
    have hcv : ∀ o : Obj, (w2.alloc o).drew.drew.cell? ⟨R, j * 2 + 1, none⟩ = some (.slice A' L c') := fun o => (World.cell?_alloc_lt w2 o ⟨R, j * 2 + 1, none⟩ lR).trans c4
    have hfv : ∀ o : Obj, (w2.alloc o).drew.drew.frozen? ⟨R, j * 2 + 1, none⟩ = false := fun o => (((Below.refl w2.heap.size w2).alloc (Nat.le_refl _) o).frozen (p := ⟨R, j * 2 + 1, none⟩) lR).trans f4
    have HCV := Lib.hid hcv
    have HFV := Lib.hid hfv
    clear hcv hfv
    go_region_law
      (refine step_append_mid (by rfl) _ _ _ (by rfl) W.heap.size 61 i0 _ 2 16 Try.underlying54 hi0 hz0 hz1 hz2 rfl (by omega) (.slice A' L c') L (prs (s.wt j)) (by rfl) (HM.out.same fun g hg => Below.heap_alloc w2 _ g (HM.out.lt g hg).2)
          ⟨w2.heap.size, 0, none⟩ 1 1 [.int .i64 r, .int .i64 no] (by rfl) (by rfl) (World.news_of_block (cs := #[.int .i64 r, .int .i64 no]) (t := 61) (fr := (0, 0)) (heap_alloc_new w2 _)) (by simp [Value.oneCell']) (by unfold maxLen; omega) (by omega) (by simp; omega) ?_
       intro v' w3 hm hran
       obtain ⟨A'', c'', rfl⟩ := hm.form
       have hc1 : w3.cell? ⟨R, j * 2 + 1, none⟩ = some (.slice A' L c') := (hran.grown.cell_far _ (by simp; omega) HN.out).trans (HCV.out _)
       have hf1 : w3.frozen? ⟨R, j * 2 + 1, none⟩ = false := (hran.grown.frozen_far _ (by simp; omega) HN.out).trans (HFV.out _))
    all_goals
      have HMm := Lib.hid hm
      have HRn := Lib.hid hran
      clear hm hran
      go_wp2
      go_ret
      have hr2 : Ran (V (false, j)) (.slice A'' (L + 1) c'') w2 w3 := by
        rw [HV.out]
        refine ⟨⟨HRn.out.grown.os, HRn.out.grown.tape, HRn.out.grown.output, by have := HRn.out.grown.size; simp at this; omega, fun b hb hr => (HRn.out.grown.block b (by simp; omega) hr).trans (Below.heap_alloc w2 _ b hb)⟩, HRn.out.at_.imp id fun h g hg => by have := h g hg; simp at this; omega⟩
      have hm2 : Mid w3 W.heap.size 61 2 (.slice A'' (L + 1) c'') (s.wt j ++ [(r, no)]).length (prs (s.wt j ++ [(r, no)])) := by
        rw [List.length_append, HL.out, prs_append]; exact HMm.out
      exact ⟨rfl, _, HF.out _ _ hr2 hm2⟩
theorem retire_any (h : Both D m G W E R Q A B k s u V w) (hs : Sml k s) (c r : Int) : Calls Try.prog 8 #[.pointer (some ⟨E, 0, none⟩), .int .i64 c, .int .i64 r] w fun e w' => e = .returned (.int .i64 (retV k s c r)) ∧ ∃ V', Both D m G W E R Q A B k (retS k s c r) u V' w' := by
  by_cases hg : (goodB r && inK k c) = true
  · rw [Bool.and_eq_true] at hg
    rcases inK_or k c with ⟨j, rfl, hj⟩ | hc
    · by_cases hl : s.lim ≤ (s.wt j).length
      · have e1 : retV k s (j : Int) r = 2 := by unfold retV; rw [if_pos (by rw [hg.1, hg.2]; rfl), Int.toNat_natCast, if_pos hl]
        have e2 : retS k s (j : Int) r = s := by unfold retS; rw [e1]; rfl
        rw [e1, e2]
        exact (retire_full2 h j hj r hg.1 hl).mono fun e w' h' => ⟨h'.1, _, h'.2⟩
      · have e1 : retV k s (j : Int) r = 0 := by unfold retV; rw [if_pos (by rw [hg.1, hg.2]; rfl), Int.toNat_natCast, if_neg hl]
        have e2 : retS k s (j : Int) r = { s with wt := updA s.wt j (s.wt j ++ [(r, s.now)]) } := by unfold retS; rw [e1, Int.toNat_natCast]; rfl
        rw [e1, e2]
        exact retire_ok2 h j hj r hg.1 (by omega) (by have := hs.l9; omega)
    · rw [inK_no hc] at hg; simp at hg
  · have e1 : retV k s c r = 1 := by unfold retV; rw [if_neg hg]
    have e2 : retS k s c r = s := by unfold retS; rw [e1]; rfl
    rw [e1, e2]
    exact (retire_bad h c r (by simpa using hg)).mono fun e w' h' => ⟨h'.1, _, h'.2⟩
set_option maxRecDepth 100000 in
set_option maxHeartbeats 400000 in
theorem col_no (h : Both D m G W E R Q A B k s u V w) (c : Int) (hc : c < 0 ∨ k ≤ c) : Calls Try.prog 12 #[.pointer (some ⟨E, 0, none⟩), .int .i64 c] w fun e w' => e = .returned (.tuple #[.int .i64 0, .bool false]) ∧ Both D m G W E R Q A B k s u V w' := by
  have HH := Lib.hid h
  have HC := Lib.hid hc
  clear h hc
  go_enter Try.func12, Try.ntmps12
  go_wp2_with (first
    | (go_at_call 26; refine (has_no HH.out c HC.out).mono ?_; rintro e w2 ⟨rfl, rfl⟩)
    | fail)
  go_ret2
  exact ⟨rfl, HH.out⟩
set_option maxRecDepth 100000 in
set_option maxHeartbeats 400000 in
theorem col_empty (h : Both D m G W E R Q A B k s u V w) (j : Nat) (hj : j < k) (hx : s.wt j = []) : Calls Try.prog 12 #[.pointer (some ⟨E, 0, none⟩), .int .i64 j] w fun e w' => e = .returned (.tuple #[.int .i64 0, .bool false]) ∧ Both D m G W E R Q A B k s u V w' := by
  obtain ⟨A', c', hV⟩ := (h.row0 hj).form
  have c2 := h.c2
  have c4 := (h.c4 hj).1
  rw [hV, hx] at c4
  simp only [List.length_nil] at c4
  have hj1 : (j : Int) < k := by omega
  have hj0 : (0 : Int) ≤ j := by omega
  have HH := Lib.hid h
  clear h hV hx
  go_enter Try.func12, Try.ntmps12
  go_wp2_with (first
    | (go_at_call 26; refine (has_yes HH.out j hj).mono ?_; rintro e w2 ⟨rfl, rfl⟩)
    | fail)
  go_quiet (fail)
  go_wp2
  go_ret2
  exact ⟨rfl, HH.out.below (below_drewN _ _)⟩
set_option maxRecDepth 100000 in
set_option maxHeartbeats 800000 in
theorem col_early (h : Both D m G W E R Q A B k s u V w) (hs : Sml k s) (j : Nat) (hj : j < k) (r at_ : Int) (xs : List (Int × Int)) (hx : s.wt j = (r, at_) :: xs) (hn : s.now - at_ < 2) :
    Calls Try.prog 12 #[.pointer (some ⟨E, 0, none⟩), .int .i64 j] w fun e w' => e = .returned (.tuple #[.int .i64 0, .bool false]) ∧ Both D m G W E R Q A B k s u V w' := by
  obtain ⟨A', c', hV⟩ := (h.row0 hj).form
  have hm := h.row0 hj
  have c0 := h.c0.1
  have c2 := h.c2
  have c4 := (h.c4 hj).1
  rw [hV, hx] at c4 hm
  have hb := hs.bd j hj (r, at_) (by rw [hx]; exact List.mem_cons_self)
  have ha0 : 0 ≤ at_ := hb.1
  have ha9 : at_ ≤ s.now := hb.2
  have hn0 := hs.n0
  have hn9 := hs.n9
  have hl9 : xs.length ≤ 1000 := by have := hs.ln j hj; rw [hx] at this; simp at this; omega
  rcases hm.2 with ⟨h', h0⟩ | ⟨g, off, cap, cur, h', _⟩
  · simp at h0
  · simp only [Value.slice.injEq, true_and] at h'
    obtain ⟨rfl, rfl⟩ := h'
    have k0 := hm.cells 0 _ rfl
    have k1 := hm.cells 1 _ rfl
    simp only [List.length_cons] at c4
    rw [Nat.add_zero] at k0
    generalize xs.length = L at *
    generalize s.now = now at *
    have hj1 : (j : Int) < k := by omega
    have hj0 : (0 : Int) ≤ j := by omega
    have hlp : (0 : Int) < (L : Int) + 1 := by omega
    have hln : ((L : Int) + 1 == 0) = false := by simp; omega
    have hd : decide (now - at_ < 2) = true := decide_eq_true hn
    have HH := Lib.hid h
    have HW : Hid (IntKind.i64.wrap (now - at_) = now - at_) := Lib.hid (IntWalk.i64_in _ (by omega))
    clear h hV hx hm hs hb
    go_enter Try.func12, Try.ntmps12
    go_wp2_with (first
      | (go_at_call 26; refine (has_yes HH.out j hj).mono ?_; rintro e w2 ⟨rfl, rfl⟩)
      | fail)
    have hw := HW.out
    go_quiet (fail)
    clear hw
    go_wp2
    go_ret2
    exact ⟨rfl, HH.out.below (below_drewN _ _)⟩
set_option maxRecDepth 100000 in
set_option maxHeartbeats 800000 in
theorem col_ok (h : Both D m G W E R Q A B k s u V w) (hs : Sml k s) (j : Nat) (hj : j < k) (r at_ : Int) (xs : List (Int × Int)) (hx : s.wt j = (r, at_) :: xs) (hn : 2 ≤ s.now - at_) :
    Calls Try.prog 12 #[.pointer (some ⟨E, 0, none⟩), .int .i64 j] w fun e w' => e = .returned (.tuple #[.int .i64 r, .bool true]) ∧ ∃ V', Both D m G W E R Q A B k { s with wt := updA s.wt j xs } u V' w' := by
  obtain ⟨A', c', hV⟩ := (h.row0 hj).form
  have hm := h.row0 hj
  have c0 := h.c0.1
  have c2 := h.c2
  obtain ⟨c4, f4⟩ := h.c4 hj
  rw [hV, hx] at c4 hm
  have hb := hs.bd j hj (r, at_) (by rw [hx]; exact List.mem_cons_self)
  have ha0 : 0 ≤ at_ := hb.1
  have ha9 : at_ ≤ s.now := hb.2
  have hn0 := hs.n0
  have hn9 := hs.n9
  have hl9 : xs.length ≤ 1000 := by have := hs.ln j hj; rw [hx] at this; simp at this; omega
  rcases hm.2 with ⟨h', h0⟩ | ⟨g, off, cap, cur, h', _⟩
  · simp at h0
  · simp only [Value.slice.injEq, true_and] at h'
    obtain ⟨rfl, rfl⟩ := h'
    have k0 := hm.cells 0 _ rfl
    have k1 := hm.cells 1 _ rfl
    simp only [List.length_cons] at c4
    rw [Nat.add_zero] at k0
    have hcap : xs.length + 1 ≤ c' := by
      rcases hm.2 with ⟨h', _⟩ | ⟨g', off', cap', cur', h', _, _, hnc, _⟩
      · simp at h'
      · simp only [Value.slice.injEq, true_and] at h'
        obtain ⟨_, rfl⟩ := h'
        simpa using hnc
    have hcut := hm.cut (k := 1) (by simp)
    have e1 : ((r, at_) :: xs).length - 1 = xs.length := by simp
    have e2 : (prs ((r, at_) :: xs)).drop (1 * 2) = prs xs := rfl
    rw [e1, e2] at hcut
    have hset : ∀ n, Both D m G W E R Q A B k { s with wt := updA s.wt j xs } u _ ((w.drewN n).setCell ⟨R, j * 2 + 1, none⟩ (.slice (if c' = 1 then some ⟨g, off, none⟩ else (some (⟨g, off, none⟩ : Addr)).map (·.add (1 * 2))) xs.length (c' - 1))) := fun n => by
      refine h.list0 hj ⟨⟨rfl, rfl, rfl, Nat.le_refl _, fun _ _ _ => rfl⟩, .inl ?_⟩ (hcut.same fun _ _ => rfl)
      rw [hV]
      split <;> rfl
    have HS := Lib.hid hset
    clear hset hcut e1 e2
    generalize hLL : xs.length = L at *
    generalize hno : s.now = now at *
    have hj1 : (j : Int) < k := by omega
    have hj0 : (0 : Int) ≤ j := by omega
    have hlp : (0 : Int) < (L : Int) + 1 := by omega
    have hln : ((L : Int) + 1 == 0) = false := by simp; omega
    have hd : decide (now - at_ < 2) = false := decide_eq_false (by omega)
    have HH := Lib.hid h
    have HW : Hid (IntKind.i64.wrap (now - at_) = now - at_) := Lib.hid (IntWalk.i64_in _ (by omega))
    clear h hV hx hm hLL hno hs hb
    by_cases hc1 : c' = 1
    · subst hc1
      obtain rfl : L = 0 := by omega
      go_enter Try.func12, Try.ntmps12
      go_wp2_with (first
        | (go_at_call 26; refine (has_yes HH.out j hj).mono ?_; rintro e w2 ⟨rfl, rfl⟩)
        | fail)
      have hw := HW.out
      go_quiet (fail)
      clear hw
      go_wp2
      go_ret2
      exact ⟨rfl, _, HS.out nq⟩
    · go_enter Try.func12, Try.ntmps12
      go_wp2_with (first
        | (go_at_call 26; refine (has_yes HH.out j hj).mono ?_; rintro e w2 ⟨rfl, rfl⟩)
        | fail)
      have hw := HW.out
      go_quiet (fail)
      clear hw
      go_wp2
      go_ret2
      exact ⟨rfl, _, by have := HS.out nq; rw [if_neg hc1] at this; exact this⟩
/-- What Collect answers. -/
def colR (o : Option Int) : Value := .tuple #[.int .i64 (o.getD 0), .bool o.isSome]
theorem col_split (s : Sta) (j : Nat) (hj : j < k) : (s.wt j = [] ∧ colO k s j = none ∧ colS k s j = s) ∨ (∃ r at_ xs, s.wt j = (r, at_) :: xs ∧ ¬ at_ + 2 ≤ s.now ∧ colO k s j = none ∧ colS k s j = s) ∨ (∃ r at_ xs, s.wt j = (r, at_) :: xs ∧ at_ + 2 ≤ s.now ∧ colO k s j = some r ∧ colS k s j = { s with wt := updA s.wt j xs }) := by
  cases hx : s.wt j with
  | nil =>
    have e1 : colO k s j = none := by unfold colO; rw [if_pos (inK_yes hj), Int.toNat_natCast, hx]
    exact .inl ⟨rfl, e1, by unfold colS; rw [e1]; rfl⟩
  | cons p xs =>
    obtain ⟨r, a⟩ := p
    by_cases hn : a + 2 ≤ s.now
    · have e1 : colO k s j = some r := by unfold colO; rw [if_pos (inK_yes hj), Int.toNat_natCast, hx]; exact if_pos hn
      exact .inr (.inr ⟨r, a, xs, rfl, hn, e1, by unfold colS; rw [e1, Int.toNat_natCast, hx]; rfl⟩)
    · have e1 : colO k s j = none := by unfold colO; rw [if_pos (inK_yes hj), Int.toNat_natCast, hx]; exact if_neg hn
      exact .inr (.inl ⟨r, a, xs, rfl, hn, e1, by unfold colS; rw [e1]; rfl⟩)
theorem col_none (s : Sta) (c : Int) (hc : c < 0 ∨ k ≤ c) : colO k s c = none ∧ colS k s c = s := by
  have e1 : colO k s c = none := by unfold colO; rw [inK_no hc]; rfl
  exact ⟨e1, by unfold colS; rw [e1]; rfl⟩
theorem col_any (h : Both D m G W E R Q A B k s u V w) (hs : Sml k s) (c : Int) : Calls Try.prog 12 #[.pointer (some ⟨E, 0, none⟩), .int .i64 c] w fun e w' => e = .returned (colR (colO k s c)) ∧ ∃ V', Both D m G W E R Q A B k (colS k s c) u V' w' := by
  rcases inK_or k c with ⟨j, rfl, hj⟩ | hc
  · rcases col_split s j hj with ⟨hx, e1, e2⟩ | ⟨r, a, xs, hx, hn, e1, e2⟩ | ⟨r, a, xs, hx, hn, e1, e2⟩
    · rw [e1, e2]; exact (col_empty h j hj hx).mono fun e w' h' => ⟨h'.1, _, h'.2⟩
    · rw [e1, e2]; exact (col_early h hs j hj r a xs hx (by omega)).mono fun e w' h' => ⟨h'.1, _, h'.2⟩
    · rw [e1, e2]; exact col_ok h hs j hj r a xs hx (by omega)
  · obtain ⟨e1, e2⟩ := col_none (k := k) s c hc
    rw [e1, e2]; exact (col_no h c hc).mono fun e w' h' => ⟨h'.1, _, h'.2⟩
end
end Go.Proofs.Ytafedpphecfgnaa
