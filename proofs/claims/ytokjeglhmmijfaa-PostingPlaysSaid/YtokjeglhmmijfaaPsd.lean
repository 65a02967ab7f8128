/-
  posting.Remove; conditions: a right list.
-/
import Derived.Test.YtokjeglhmmijfaaPsc
namespace Go.Proofs.Ytokjeglhmmijfaa
open Go.RowKit Go.WideShapes Go.ChangeShapes
set_option linter.all false
set_option maxRecDepth 100000 in
set_option maxHeartbeats 1600000 in
theorem rem_no (F : Nat → Prop) (A : Option Addr) (n c : Nat) (L : List (List Nat)) (x : Int) (w : World) (h : PLF w F A n c L) (hR : RL L) (hn : n ≤ 1000000) (hx : hasB x L.flatten = false) :
    Calls Try.prog 13 #[plV A n c, .int .i64 x] w (AddP F L false w) := by
  have HLN := Lib.hid h.len
  obtain ⟨wb, hwb⟩ : ∃ wb, (w.alloc (.cells #[.slice A n c] 24)).alloc (.cells #[.slice none 0 0] 24) = wb := ⟨_, rfl⟩
  have HX : Hid (B2 A n c w wb) := Lib.hid (hwb ▸ B2.new A n c w)
  have HW := Lib.hid hwb
  have HL := Lib.hid h
  have p0 := HX.out.p0
  have HC : Hid (Calls Try.prog 21 #[plV A n c, .int .i64 x] wb fun e w' => e = .returned (.bool false) ∧ Below wb.heap.size wb w') := Lib.hid (by have := has_any A n c L x wb (h.pl.on HX.out.bel) hR hn; rw [hx] at this; exact this)
  clear h hwb hx hR
  unfold plV at HC ⊢
  go_enter Try.func13, Try.ntmps13
  go_upto_region 1 with (fail)
  rw [HW.out]
  go_upto_region 2 with (first
    | (go_at_call 21; refine HC.out.mono ?_; rintro e w2 ⟨rfl, hb2⟩; have HX2 := Lib.hid (HX.out.on hb2); clear hb2
       have p0 := HX2.out.p0
       have p1 := HX2.out.p1
       have f1 := HX2.out.f1)
    | fail)
  go_wp2
  have hs := HX2.out.set (.slice A n c)
  have hp := (HL.out.boxes HX2.out.bel).done (.slice A n c)
  generalize w2.setCell ⟨w.heap.size + 1, 0, none⟩ (.slice A n c) = w9 at *
  have e1 := hs.1
  refine bodyPost_ret (v := .tuple #[.agg #[.slice A n c], .bool false]) (by simp [results, Try.results13, go_sem, e1]) rfl (AddP.mk HLN.out hs.2 hp)
theorem ks_del (y : Nat) (b : List Nat) : (ks .i64 (nb b)).take (lowI y b) ++ (ks .i64 (nb b)).drop (lowI y b + 1) = ks .i64 (nb (delB y b)) := by
  unfold delB ks nb
  simp
theorem delB_len {y : Nat} {b : List Nat} {p : Nat} (h : ascB p b = true) (hm : y ∈ b) : (delB y b).length = b.length - 1 := by
  have := (low_at h hm).1
  unfold delB
  simp only [List.length_append, List.length_take, List.length_drop]; omega
theorem has_mem {y : Nat} {l : List Nat} (h : hasB (y : Int) l = true) : y ∈ l := by
  unfold hasB at h
  rw [decide_eq_true_eq] at h
  obtain ⟨z, hz, e⟩ := h
  have : z = y := by omega
  subst this; exact hz
set_option maxRecDepth 100000 in
set_option maxHeartbeats 6400000 in
theorem rem_yes (w : World) (F : Nat → Prop) (hF : ∀ b, F b → b < w.heap.size) (A : Option Addr) (n c : Nat) (L : List (List Nat)) (y : Nat) (h : PLF w F A n c L) (hR : RL L) (hn : n ≤ 1000000) (hh : hasB y L.flatten = true) :
    Calls Try.prog 13 #[plV A n c, .int .i64 (y : Int)] w (AddP F (remL y L) true w) := by
  have hy := has_mem hh
  have hRA := rem_right hR hy
  obtain ⟨hne, hyb⟩ := mem_block hR hy
  have HRA := Lib.hid hRA
  have HR := Lib.hid hR
  have HL := Lib.hid h
  have HLN := Lib.hid h.len
  obtain ⟨k, hk⟩ : ∃ k, k = kOf (y : Int) L := ⟨_, rfl⟩
  have hkn : k < n := by rw [hk, ← h.len]; exact kOf_lt hne
  obtain ⟨b, hb⟩ : ∃ b, b = L.getD k [] := ⟨_, rfl⟩
  rw [← hk, ← hb] at hyb
  have hkl : k < L.length := by rw [h.len]; exact hkn
  have hbm : b ∈ L := by rw [hb]; exact getD_mem hkl
  have hbl := hR.len b hbm
  have hab := hR.block hbm
  have HAB : Hid (ascB 0 b = true) := Lib.hid hab
  obtain ⟨q, hq⟩ : ∃ q, q = lowI (y : Int) b := ⟨_, rfl⟩
  have hqm : q < b.length := by rw [hq]; exact (low_at hab hyb).1
  have HIL := Lib.hid (delB_len hab hyb)
  have HK := Lib.hid hk
  have HB := Lib.hid hb
  have HQ := Lib.hid hq
  obtain ⟨d, hd⟩ : ∃ d, d = delB y b := ⟨_, rfl⟩
  have hrem : remL y L = if d.length = 0 then L.take k ++ L.drop (k + 1)
      else if k + 1 < L.length then (if d.length + (L.getD (k + 1) []).length ≤ 16 then L.take k ++ [d ++ L.getD (k + 1) []] ++ L.drop (k + 2) else L.take k ++ [d] ++ L.drop (k + 1))
      else if 0 < k then (if (L.getD (k - 1) []).length + d.length ≤ 16 then L.take (k - 1) ++ [L.getD (k - 1) [] ++ d] ++ L.drop (k + 1) else L.take k ++ [d] ++ L.drop (k + 1))
      else L.take k ++ [d] ++ L.drop (k + 1) := by
    unfold remL; simp only; rw [← hk, ← hb, ← hd]
  have HREM := Lib.hid hrem
  have HD := Lib.hid hd
  rw [← hd] at HIL
  obtain ⟨wb, hwb⟩ : ∃ wb, (w.alloc (.cells #[.slice A n c] 24)).alloc (.cells #[.slice none 0 0] 24) = wb := ⟨_, rfl⟩
  have HX : Hid (B2 A n c w wb) := Lib.hid (hwb ▸ B2.new A n c w)
  have HW := Lib.hid hwb
  have p0 := HX.out.p0
  have HC : Hid (Calls Try.prog 21 #[plV A n c, .int .i64 (y : Int)] wb fun e w' => e = .returned (.bool true) ∧ Below wb.heap.size wb w') := Lib.hid (by
    have := has_any A n c L y wb (h.pl.on HX.out.bel) hR hn; rw [hh] at this; exact this)
  obtain ⟨m, hm⟩ : ∃ m, m = b.length := ⟨_, rfl⟩
  rw [← hm] at hbl hqm HIL
  have HM := Lib.hid hm
  have HKW : Hid (IntKind.i64.wrap ((k : Int) + 1) = ((k + 1 : Nat) : Int)) := Lib.hid (by rw [IntWalk.i64_in _ (by omega)]; omega)
  obtain ⟨e, hme⟩ : ∃ e, m = e + 1 := ⟨m - 1, by omega⟩
  subst hme
  rw [Nat.add_sub_cancel] at HIL
  clear h hwb hk hb hq hrem hRA hR hbm hkl hne hh hm hy hyb hab hd
  unfold plV at HC ⊢
  go_enter Try.func13, Try.ntmps13
  go_upto_region 1 with (fail)
  rw [HW.out]
  go_upto_region 3 with (first
    | (go_at_call 21; refine HC.out.mono ?_; rintro e w2 ⟨rfl, hb2⟩; have HX2 := Lib.hid (HX.out.on hb2); clear hb2
       have p0 := HX2.out.p0)
    | fail)
  go_upto_region 4 with (first
    | (go_at_call 34; refine (blockOf_any A n c L y _ (HL.out.pl.on HX2.out.bel) HR.out hn).mono ?_; rintro e w3 ⟨rfl, hb3⟩; rw [← HK.out]; have HX3 := Lib.hid (HX2.out.on hb3); clear hb3
       have p0 := HX3.out.p0)
    | fail)
  go_upto_region 5 with (first
    | (go_at_call 35; refine (block_any A n c k L _ (HL.out.pl.on HX3.out.bel) HR.out hkn).mono ?_; rintro e w4 ⟨A4, c4, rfl, hb4, hm4⟩
       rw [← HB.out, ← HM.out] at hm4 ⊢
       have HX4 := Lib.hid (HX3.out.on hb4)
       have HM4 := Lib.hid hm4
       have HS4 := Lib.hid hb4.size
       clear hb4 hm4
       have p0 := HX4.out.p0)
    | fail)
  go_upto_region 6 with (first
    | (go_at_call 36; refine (bs_any _ _ (e + 1) _ b y _ HM4.out.reads (by omega) HAB.out).mono ?_; rintro e' w5 ⟨rfl, hw5⟩; rw [hw5]; clear hw5; rw [← HQ.out])
    | fail)
  have hA4 : ∃ g off, A4 = some ⟨g, off, none⟩ := by
    rcases HM4.out.2 with ⟨h', h0⟩ | ⟨g, off, cap, cur, h', _⟩
    · omega
    · simp only [Value.slice.injEq] at h'; exact ⟨g, off, h'.1⟩
  obtain ⟨g4, o4, rfl⟩ := hA4
  go_upto_region 7 with (first
    | (go_at_call 38
       refine (del_mid_int w3.heap.size g4 o4 (e + 1) c4 q (ks .i64 (nb b)) w4 HM4.out (by omega) (by omega) (ks_one _ _)).mono ?_
       rintro e' w6 ⟨rfl, hm6, hr6⟩
       rw [HQ.out, ks_del, ← HD.out] at hm6
       rw [Nat.add_sub_cancel] at hm6 hr6 ⊢
       have HX6 : Hid (B2 A n c w w6) := Lib.hid (HX4.out.onm (k := w3.heap.size) HX3.out.lt (ran_below HM4.out hr6 (Nat.le_refl _) HS4.out))
       have HM6 := Lib.hid hm6
       have HS6 : Hid (w3.heap.size ≤ w6.heap.size) := Lib.hid (Nat.le_trans HS4.out hr6.grown.size)
       clear hm6 hr6
       have p0 := HX6.out.p0)
    | fail)
  have HSK := Lib.hid HM6.out.sk
  by_cases h0 : e = 0
  · subst h0
    have HLL : Hid (L.take k ++ [] ++ L.drop (k + 1) = remL y L) := Lib.hid (by rw [HREM.out, if_pos HIL.out, List.append_nil])
    go_wp2_with (first
      | (go_at_call 33
         refine (with_any (F2 F w.heap.size) A none n c k (k + 1) 0 0 L [] [] _ (F2.lt hF HX6.out.lt) (HL.out.boxes HX6.out.bel) hn (by omega) (by omega) (LK.none_ _ _) (by omega) rfl (by simp)).mono ?_
         rw [HLL.out]
         rintro e' w8 ⟨A8, c8, rfl, hb8, hp8⟩
         have HX8 := Lib.hid (HX6.out.on hb8)
         have HP8 := Lib.hid hp8
         clear hb8 hp8
         have p0 := HX8.out.p0
         have p1 := HX8.out.p1
         have f1 := HX8.out.f1)
      | fail)
    obtain ⟨K, hK⟩ : ∃ K, K = (remL y L).length := ⟨_, rfl⟩
    rw [← hK] at HP8 ⊢
    have hs := HX8.out.set (.slice A8 K c8)
    have hp := HP8.out.done (.slice A8 K c8)
    generalize w8.setCell ⟨w.heap.size + 1, 0, none⟩ (.slice A8 K c8) = w9 at *
    have e1 := hs.1
    refine bodyPost_ret (v := .tuple #[.agg #[.slice A8 K c8], .bool true]) (by simp [results, Try.results13, go_sem, e1]) rfl (AddP.mk hK.symm hs.2 hp)
  · have h0' : ((e : Int) == 0) = false := by simp; omega
    by_cases hl : k + 1 < n
    · have hl' : (k : Int) < (n : Int) - 1 := by omega
      obtain ⟨b2, hb2⟩ : ∃ b2, b2 = L.getD (k + 1) [] := ⟨_, rfl⟩
      have hm2 : b2.length ≤ 16 := by rw [hb2]; exact (HR.out.len _ (getD_mem (by rw [HLN.out]; exact hl))).2
      obtain ⟨m2, hmm2⟩ : ∃ m2, m2 = b2.length := ⟨_, rfl⟩
      rw [← hmm2] at hm2
      have HB2 := Lib.hid hb2
      have HM2 := Lib.hid hmm2
      clear hb2 hmm2
      have HC35 : Hid (Calls Try.prog 35 #[.agg #[.slice A n c], .int .i64 ((k : Int) + 1)] w6 (IdsP b2 w6)) := Lib.hid (by
        have := block_any A n c (k + 1) L w6 (HL.out.pl.on HX6.out.bel) HR.out hl
        rw [← HB2.out] at this
        exact this)
      go_upto_region 12 with (first
        | (go_at_call 35; refine HC35.out.mono ?_; rintro e' w7 ⟨A7, c7, rfl, hb7, hm7⟩
           rw [← HM2.out] at hm7 ⊢
           have HX7 := Lib.hid (HX6.out.on hb7)
           have HM7 := Lib.hid hm7
           have HI7 := Lib.hid (HM6.out.onb hb7)
           have HS7 := Lib.hid hb7.size
           clear hb7 hm7
           have p0 := HX7.out.p0)
        | fail)
      have HSK7 := Lib.hid HI7.out.sk
      by_cases h16 : e + m2 ≤ 16
      · have h16' : (e : Int) + (m2 : Int) ≤ 16 := by omega
        have HLL : Hid (L.take k ++ [d ++ b2] ++ L.drop (k + 2) = remL y L) := Lib.hid (by rw [HREM.out, if_neg (by rw [HIL.out]; exact h0), if_pos (by rw [HLN.out]; exact hl), ← HB2.out, if_pos (by rw [HIL.out, ← HM2.out]; exact h16)])
        have HRB : Hid (∀ x ∈ [d ++ b2], rightN x = true) := Lib.hid (by
          intro x hx
          exact HRA.out.right (by rw [← HLL.out, List.mem_append, List.mem_append]; exact .inl (.inr hx)))
        have HKW2 : Hid (IntKind.i64.wrap ((k : Int) + 2) = ((k + 2 : Nat) : Int)) := Lib.hid (by rw [IntWalk.i64_in _ (by omega)]; omega)
        obtain ⟨i0, hi0, hz0, hz1, hz2⟩ := info_parts infoI
        go_upto_region 13 with (fail)
        have hS : (fun w' : World => w'.cell? ⟨w.heap.size, 0, none⟩ = some (.slice A n c)) w7.drew := p0
        refine wp_region_T (fun w' : World => w'.cell? ⟨w.heap.size, 0, none⟩ = some (.slice A n c)) 9 (by kernel_rfl) ?_
        refine wpAnyT_take (i := 0) (oi := _) (v := ?_) (by rfl) (by kernel_rfl) (by intro _ _ _ h; exact h) hS (Or.inl ⟨by rfl, ?_⟩) ?_
        rotate_left 1
        · intro w' hl1
          go_simp
          all_goals with_reducible rfl
        simp only [Act.put, List.getElem_toArray, List.getElem_cons_zero, List.getElem_cons_succ, List.setIfInBounds_toArray, List.set_cons_zero, List.set_cons_succ]
        refine wpAnyT_take (i := 1) (oi := _) (v := ?_) (by rfl) (by kernel_rfl) (by intro _ _ _ h; exact h) hS (Or.inl ⟨by rfl, ?_⟩) ?_
        rotate_left 1
        · intro w' hl1
          go_simp
          all_goals with_reducible rfl
        simp only [Act.put, List.getElem_toArray, List.getElem_cons_zero, List.getElem_cons_succ, List.setIfInBounds_toArray, List.set_cons_zero, List.set_cons_succ]
        refine wpAnyT_take (i := 2) (oi := _) (v := ?_) (by rfl) (by kernel_rfl) (by intro _ _ _ h; exact h) hS (Or.inl ⟨by rfl, ?_⟩) ?_
        rotate_left 1
        · intro w' hl1
          go_simp
          all_goals with_reducible rfl
        simp only [Act.put, List.getElem_toArray, List.getElem_cons_zero, List.getElem_cons_succ, List.setIfInBounds_toArray, List.set_cons_zero, List.set_cons_succ]
        refine wpAnyT_take (i := 3) (oi := _) (v := ?_) (by rfl) (by kernel_rfl) (by intro _ _ _ h; exact h) hS (Or.inl ⟨by rfl, ?_⟩) ?_
        rotate_left 1
        · intro w' hl1
          go_simp
          all_goals with_reducible rfl
        simp only [Act.put, List.getElem_toArray, List.getElem_cons_zero, List.getElem_cons_succ, List.setIfInBounds_toArray, List.set_cons_zero, List.set_cons_succ]
        refine wpAnyT_take (i := 4) (oi := _) (v := ?_) (by rfl) (by kernel_rfl) (by intro _ _ _ h; exact h) hS (Or.inl ⟨by rfl, ?_⟩) ?_
        rotate_left 1
        · intro w' hl1
          go_simp
          all_goals with_reducible rfl
        simp only [Act.put, List.getElem_toArray, List.getElem_cons_zero, List.getElem_cons_succ, List.setIfInBounds_toArray, List.set_cons_zero, List.set_cons_succ]
        refine wpAnyT_take (i := 5) (oi := _) (v := ?_) (by rfl) (by kernel_rfl) (by intro _ _ _ h; exact h) hS (Or.inl ⟨by rfl, ?_⟩) ?_
        rotate_left 1
        · intro w' hl1
          go_simp
          all_goals with_reducible rfl
        simp only [Act.put, List.getElem_toArray, List.getElem_cons_zero, List.getElem_cons_succ, List.setIfInBounds_toArray, List.set_cons_zero, List.set_cons_succ]
        refine wpAnyT_all (rs := [6]) (by kernel_rfl) (by simp) ?_
        intro ix hix
        simp only [List.mem_cons, List.not_mem_nil, or_false] at hix
        subst hix
        refine wpT_op (o := _) (by rfl) (fun K hK => ?_)
        refine step_append_src (by rfl) _ _ _ (by rfl) w3.heap.size 3 i0 _ 1 8 Try.underlying28 hi0 hz0 hz1 hz2 rfl (by omega) (.slice (some ⟨g4, o4, none⟩) e c4) e (ks .i64 (nb d)) (by rfl) (HI7.out.onb (below_drew w7)) w7.heap.size _ m2 c7 (ks .i64 (nb b2)) (by rfl) (HM7.out.onb (below_drew w7)).readsv (ks_one _ _) (by unfold maxLen; omega) (by omega) (Nat.le_trans HS6.out HS7.out) ?_
        intro v5 w5 hm5 hr5
        rw [← ks_append, ← nb_append] at hm5
        obtain ⟨A5, c5, e5⟩ := hm5.form
        subst e5
        have HX5 : Hid (B2 A n c w w5) := Lib.hid ((HX7.out.on (below_drew _)).onm (k := w3.heap.size) HX3.out.lt (ran_below (HI7.out.onb (below_drew w7)) hr5 (Nat.le_refl _) (Nat.le_trans HS6.out HS7.out)))
        have hS5 := HX5.out.p0
        have HSK5 := Lib.hid hm5.sk
        clear hm5 hr5
        refine hK _ _ (fun _ => hS5) ?_
        clear hK K
        try simp only [Act.put, List.getElem_toArray, List.getElem_cons_zero, List.getElem_cons_succ, List.setIfInBounds_toArray, List.set_cons_zero, List.set_cons_succ]
        refine wpAnyT_all (rs := [7]) (by kernel_rfl) (by simp) ?_
        intro ix hix
        simp only [List.mem_cons, List.not_mem_nil, or_false] at hix
        subst hix
        refine wpT_op (o := _) (by rfl) (fun K hK => ?_)
        go_simp
        have HLK := Lib.hid (lkA HSK5.out)
        have HX6b := Lib.hid (HX5.out.on (below_alloc w5 (.cells #[.slice A5 (e + m2) c5] 28)))
        have hS6 := HX6b.out.p0
        refine hK _ _ (fun _ => hS6) ?_
        clear hK K
        try simp only [Act.put, List.getElem_toArray, List.getElem_cons_zero, List.getElem_cons_succ, List.setIfInBounds_toArray, List.set_cons_zero, List.set_cons_succ]
        refine wpAnyT_all (rs := [8]) (by kernel_rfl) (by simp) ?_
        intro ix hix
        simp only [List.mem_cons, List.not_mem_nil, or_false] at hix
        subst hix
        refine wpT_op (o := _) (by rfl) (fun K hK => ?_)
        go_simp
        go_at_call 33
        rw [HKW2.out]
        refine (with_any (F2 F w.heap.size) A _ n c (k) (k + 2) 1 1 L [d ++ b2] _ _ (F2.lt hF HX6b.out.lt) (HL.out.boxes HX6b.out.bel) hn (by omega) (by omega) HLK.out (by omega) rfl HRB.out).mono ?_
        rw [HLL.out]
        rintro e' w8 ⟨A8, c8, rfl, hb8, hp8⟩
        have HX8 := Lib.hid (HX6b.out.on hb8)
        have HP8 := Lib.hid hp8
        clear hb8 hp8
        have p0 := HX8.out.p0
        have p1 := HX8.out.p1
        have f1 := HX8.out.f1
        refine hK _ _ (fun _ => p0) ?_
        clear hK K
        try simp only [Act.put, List.getElem_toArray, List.getElem_cons_zero, List.getElem_cons_succ, List.setIfInBounds_toArray, List.set_cons_zero, List.set_cons_succ]
        refine wpAnyT_all (rs := [9]) (by kernel_rfl) (by simp) ?_
        intro ix hix
        simp only [List.mem_cons, List.not_mem_nil, or_false] at hix
        subst hix
        refine wpT_op (o := _) (by rfl) (fun K hK => ?_)
        go_simp
        refine hK _ _ (fun h => absurd h (by omega)) ?_
        clear hK K
        try simp only [Act.put, List.getElem_toArray, List.getElem_cons_zero, List.getElem_cons_succ, List.setIfInBounds_toArray, List.set_cons_zero, List.set_cons_succ]
        refine wpAnyT_all (rs := [10]) (by kernel_rfl) (by simp) ?_
        intro ix hix
        simp only [List.mem_cons, List.not_mem_nil, or_false] at hix
        subst hix
        refine wpT_op (o := _) (by rfl) (fun K hK => ?_)
        go_simp
        refine hK _ _ (fun h => absurd h (by omega)) ?_
        clear hK K
        try simp only [Act.put, List.getElem_toArray, List.getElem_cons_zero, List.getElem_cons_succ, List.setIfInBounds_toArray, List.set_cons_zero, List.set_cons_succ]
        refine wpAnyT_done (by kernel_rfl) ?_ _
        go_wp2
        obtain ⟨K, hK⟩ : ∃ K, K = (remL y L).length := ⟨_, rfl⟩
        rw [← hK] at HP8 ⊢
        have hs := HX8.out.set (.slice A8 K c8)
        have hp := HP8.out.done (.slice A8 K c8)
        generalize w8.setCell ⟨w.heap.size + 1, 0, none⟩ (.slice A8 K c8) = w9 at *
        have e1 := hs.1
        refine bodyPost_ret (v := .tuple #[.agg #[.slice A8 K c8], .bool true]) (by simp [results, Try.results13, go_sem, e1]) rfl (AddP.mk hK.symm hs.2 hp)
      · have h16' : ¬ (e : Int) + (m2 : Int) ≤ 16 := by omega
        have HLL : Hid (L.take k ++ [d] ++ L.drop (k + 1) = remL y L) := Lib.hid (by rw [HREM.out, if_neg (by rw [HIL.out]; exact h0), if_pos (by rw [HLN.out]; exact hl), ← HB2.out, if_neg (by rw [HIL.out, ← HM2.out]; exact h16)])
        have HRB : Hid (∀ x ∈ [d], rightN x = true) := Lib.hid (by
          intro x hx
          exact HRA.out.right (by rw [← HLL.out, List.mem_append, List.mem_append]; exact .inl (.inr hx)))
        go_wp2_with (first
          | (go_at_call 33
             refine (with_any (F2 F w.heap.size) A _ n c k (k + 1) 1 1 L [d] _ _ (F2.lt hF (HX7.out.on (below_alloc _ _)).lt) (HL.out.boxes (HX7.out.on (below_alloc _ _)).bel) hn (by omega) (by omega) (lkA HSK7.out) (by omega) rfl HRB.out).mono ?_
             rw [HLL.out]
             rintro e' w8 ⟨A8, c8, rfl, hb8, hp8⟩
             have HX8 := Lib.hid ((HX7.out.on (below_alloc _ _)).on hb8)
             have HP8 := Lib.hid hp8
             clear hb8 hp8
             have p0 := HX8.out.p0
             have p1 := HX8.out.p1
             have f1 := HX8.out.f1)
          | fail)
        obtain ⟨K, hK⟩ : ∃ K, K = (remL y L).length := ⟨_, rfl⟩
        rw [← hK] at HP8 ⊢
        have hs := HX8.out.set (.slice A8 K c8)
        have hp := HP8.out.done (.slice A8 K c8)
        generalize w8.setCell ⟨w.heap.size + 1, 0, none⟩ (.slice A8 K c8) = w9 at *
        have e1 := hs.1
        refine bodyPost_ret (v := .tuple #[.agg #[.slice A8 K c8], .bool true]) (by simp [results, Try.results13, go_sem, e1]) rfl (AddP.mk hK.symm hs.2 hp)
    · have hl' : ¬ (k : Int) < (n : Int) - 1 := by omega
      by_cases hk0 : 0 < k
      · have hk0' : (0 : Int) < k := by omega
        obtain ⟨j, rfl⟩ : ∃ j, k = j + 1 := ⟨k - 1, by omega⟩
        obtain ⟨b2, hb2⟩ : ∃ b2, b2 = L.getD j [] := ⟨_, rfl⟩
        have hm2 : b2.length ≤ 16 := by rw [hb2]; exact (HR.out.len _ (getD_mem (by rw [HLN.out]; omega))).2
        obtain ⟨m2, hmm2⟩ : ∃ m2, m2 = b2.length := ⟨_, rfl⟩
        rw [← hmm2] at hm2
        have HB2 := Lib.hid hb2
        have HM2 := Lib.hid hmm2
        clear hb2 hmm2
        have HC35 := Lib.hid (block_any A n c j L w6 (HL.out.pl.on HX6.out.bel) HR.out (by omega))
        rw [← HB2.out] at HC35
        go_upto_region 16 with (first
          | (go_at_call 35; refine HC35.out.mono ?_; rintro e' w7 ⟨A7, c7, rfl, hb7, hm7⟩
             rw [← HM2.out] at hm7 ⊢
             have HX7 := Lib.hid (HX6.out.on hb7)
             have HM7 := Lib.hid hm7
             have HI7 := Lib.hid (HM6.out.onb hb7)
             have HS7 := Lib.hid hb7.size
             clear hb7 hm7
             have p0 := HX7.out.p0)
          | fail)
        have HSK7 := Lib.hid HI7.out.sk
        have hr := HREM.out
        rw [Nat.add_sub_cancel] at hr
        have HREM := Lib.hid hr
        clear hr
        by_cases h16 : m2 + e ≤ 16
        · have h16' : (m2 : Int) + (e : Int) ≤ 16 := by omega
          have HLL : Hid (L.take j ++ [b2 ++ d] ++ L.drop (j + 1 + 1) = remL y L) := Lib.hid (by rw [HREM.out, if_neg (by rw [HIL.out]; exact h0), if_neg (by rw [HLN.out]; exact hl), if_pos hk0, ← HB2.out, if_pos (by rw [HIL.out, ← HM2.out]; exact h16)])
          have HRB : Hid (∀ x ∈ [b2 ++ d], rightN x = true) := Lib.hid (by
            intro x hx
            exact HRA.out.right (by rw [← HLL.out, List.mem_append, List.mem_append]; exact .inl (.inr hx)))
          have HKW2 : Hid (IntKind.i64.wrap ((j : Int) + 1 + 1) = ((j + 1 + 1 : Nat) : Int)) := Lib.hid (by rw [IntWalk.i64_in _ (by omega)]; omega)
          have HKW3 : Hid (IntKind.i64.wrap (j : Int) = (j : Int)) := Lib.hid (by rw [IntWalk.i64_in _ (by omega)])
          obtain ⟨i0, hi0, hz0, hz1, hz2⟩ := info_parts infoI
          go_upto_region 17 with (fail)
          have hS : (fun w' : World => w'.cell? ⟨w.heap.size, 0, none⟩ = some (.slice A n c)) w7.drew := p0
          refine wp_region_T (fun w' : World => w'.cell? ⟨w.heap.size, 0, none⟩ = some (.slice A n c)) 10 (by kernel_rfl) ?_
          refine wpAnyT_take (i := 0) (oi := _) (v := ?_) (by rfl) (by kernel_rfl) (by intro _ _ _ h; exact h) hS (Or.inl ⟨by rfl, ?_⟩) ?_
          rotate_left 1
          · intro w' hl1
            go_simp
            all_goals with_reducible rfl
          simp only [Act.put, List.getElem_toArray, List.getElem_cons_zero, List.getElem_cons_succ, List.setIfInBounds_toArray, List.set_cons_zero, List.set_cons_succ]
          refine wpAnyT_take (i := 1) (oi := _) (v := ?_) (by rfl) (by kernel_rfl) (by intro _ _ _ h; exact h) hS (Or.inl ⟨by rfl, ?_⟩) ?_
          rotate_left 1
          · intro w' hl1
            go_simp
            all_goals with_reducible rfl
          simp only [Act.put, List.getElem_toArray, List.getElem_cons_zero, List.getElem_cons_succ, List.setIfInBounds_toArray, List.set_cons_zero, List.set_cons_succ]
          refine wpAnyT_take (i := 2) (oi := _) (v := ?_) (by rfl) (by kernel_rfl) (by intro _ _ _ h; exact h) hS (Or.inl ⟨by rfl, ?_⟩) ?_
          rotate_left 1
          · intro w' hl1
            go_simp
            all_goals with_reducible rfl
          simp only [Act.put, List.getElem_toArray, List.getElem_cons_zero, List.getElem_cons_succ, List.setIfInBounds_toArray, List.set_cons_zero, List.set_cons_succ]
          refine wpAnyT_take (i := 3) (oi := _) (v := ?_) (by rfl) (by kernel_rfl) (by intro _ _ _ h; exact h) hS (Or.inl ⟨by rfl, ?_⟩) ?_
          rotate_left 1
          · intro w' hl1
            go_simp
            all_goals with_reducible rfl
          simp only [Act.put, List.getElem_toArray, List.getElem_cons_zero, List.getElem_cons_succ, List.setIfInBounds_toArray, List.set_cons_zero, List.set_cons_succ]
          refine wpAnyT_take (i := 4) (oi := _) (v := ?_) (by rfl) (by kernel_rfl) (by intro _ _ _ h; exact h) hS (Or.inl ⟨by rfl, ?_⟩) ?_
          rotate_left 1
          · intro w' hl1
            go_simp
            all_goals with_reducible rfl
          simp only [Act.put, List.getElem_toArray, List.getElem_cons_zero, List.getElem_cons_succ, List.setIfInBounds_toArray, List.set_cons_zero, List.set_cons_succ]
          refine wpAnyT_take (i := 5) (oi := _) (v := ?_) (by rfl) (by kernel_rfl) (by intro _ _ _ h; exact h) hS (Or.inl ⟨by rfl, ?_⟩) ?_
          rotate_left 1
          · intro w' hl1
            go_simp
            all_goals with_reducible rfl
          simp only [Act.put, List.getElem_toArray, List.getElem_cons_zero, List.getElem_cons_succ, List.setIfInBounds_toArray, List.set_cons_zero, List.set_cons_succ]
          refine wpAnyT_take (i := 6) (oi := _) (v := ?_) (by rfl) (by kernel_rfl) (by intro _ _ _ h; exact h) hS (Or.inl ⟨by rfl, ?_⟩) ?_
          rotate_left 1
          · intro w' hl1
            go_simp
            all_goals with_reducible rfl
          simp only [Act.put, List.getElem_toArray, List.getElem_cons_zero, List.getElem_cons_succ, List.setIfInBounds_toArray, List.set_cons_zero, List.set_cons_succ]
          refine wpAnyT_all (rs := [7]) (by kernel_rfl) (by simp) ?_
          intro ix hix
          simp only [List.mem_cons, List.not_mem_nil, or_false] at hix
          subst hix
          refine wpT_op (o := _) (by rfl) (fun K hK => ?_)
          refine step_append_src (by rfl) _ _ _ (by rfl) w6.heap.size 3 i0 _ 1 8 Try.underlying28 hi0 hz0 hz1 hz2 rfl (by omega) (.slice A7 m2 c7) m2 (ks .i64 (nb b2)) (by rfl) (HM7.out.onb (below_drew w7)) w7.heap.size _ e c4 (ks .i64 (nb d)) (by rfl) (HI7.out.onb (below_drew w7)).readsv (ks_one _ _) (by unfold maxLen; omega) (by omega) HS7.out ?_
          intro v5 w5 hm5 hr5
          rw [← ks_append, ← nb_append] at hm5
          obtain ⟨A5, c5, e5⟩ := hm5.form
          subst e5
          have HX5 : Hid (B2 A n c w w5) := Lib.hid ((HX7.out.on (below_drew _)).onm (k := w6.heap.size) HX6.out.lt (ran_below (HM7.out.onb (below_drew w7)) hr5 (Nat.le_refl _) HS7.out))
          have hS5 := HX5.out.p0
          have HSK5 := Lib.hid hm5.sk
          clear hm5 hr5
          refine hK _ _ (fun _ => hS5) ?_
          clear hK K
          try simp only [Act.put, List.getElem_toArray, List.getElem_cons_zero, List.getElem_cons_succ, List.setIfInBounds_toArray, List.set_cons_zero, List.set_cons_succ]
          refine wpAnyT_all (rs := [8]) (by kernel_rfl) (by simp) ?_
          intro ix hix
          simp only [List.mem_cons, List.not_mem_nil, or_false] at hix
          subst hix
          refine wpT_op (o := _) (by rfl) (fun K hK => ?_)
          go_simp
          have HLK := Lib.hid (lkA HSK5.out)
          have HX6b := Lib.hid (HX5.out.on (below_alloc w5 (.cells #[.slice A5 (m2 + e) c5] 28)))
          have hS6 := HX6b.out.p0
          refine hK _ _ (fun _ => hS6) ?_
          clear hK K
          try simp only [Act.put, List.getElem_toArray, List.getElem_cons_zero, List.getElem_cons_succ, List.setIfInBounds_toArray, List.set_cons_zero, List.set_cons_succ]
          refine wpAnyT_all (rs := [9]) (by kernel_rfl) (by simp) ?_
          intro ix hix
          simp only [List.mem_cons, List.not_mem_nil, or_false] at hix
          subst hix
          refine wpT_op (o := _) (by rfl) (fun K hK => ?_)
          go_simp
          go_at_call 33
          rw [HKW2.out, HKW3.out]
          refine (with_any (F2 F w.heap.size) A _ n c (j) (j + 1 + 1) 1 1 L [b2 ++ d] _ _ (F2.lt hF HX6b.out.lt) (HL.out.boxes HX6b.out.bel) hn (by omega) (by omega) HLK.out (by omega) rfl HRB.out).mono ?_
          rw [HLL.out]
          rintro e' w8 ⟨A8, c8, rfl, hb8, hp8⟩
          have HX8 := Lib.hid (HX6b.out.on hb8)
          have HP8 := Lib.hid hp8
          clear hb8 hp8
          have p0 := HX8.out.p0
          have p1 := HX8.out.p1
          have f1 := HX8.out.f1
          refine hK _ _ (fun _ => p0) ?_
          clear hK K
          try simp only [Act.put, List.getElem_toArray, List.getElem_cons_zero, List.getElem_cons_succ, List.setIfInBounds_toArray, List.set_cons_zero, List.set_cons_succ]
          refine wpAnyT_all (rs := [10]) (by kernel_rfl) (by simp) ?_
          intro ix hix
          simp only [List.mem_cons, List.not_mem_nil, or_false] at hix
          subst hix
          refine wpT_op (o := _) (by rfl) (fun K hK => ?_)
          go_simp
          refine hK _ _ (fun h => absurd h (by omega)) ?_
          clear hK K
          try simp only [Act.put, List.getElem_toArray, List.getElem_cons_zero, List.getElem_cons_succ, List.setIfInBounds_toArray, List.set_cons_zero, List.set_cons_succ]
          refine wpAnyT_all (rs := [11]) (by kernel_rfl) (by simp) ?_
          intro ix hix
          simp only [List.mem_cons, List.not_mem_nil, or_false] at hix
          subst hix
          refine wpT_op (o := _) (by rfl) (fun K hK => ?_)
          go_simp
          refine hK _ _ (fun h => absurd h (by omega)) ?_
          clear hK K
          try simp only [Act.put, List.getElem_toArray, List.getElem_cons_zero, List.getElem_cons_succ, List.setIfInBounds_toArray, List.set_cons_zero, List.set_cons_succ]
          refine wpAnyT_done (by kernel_rfl) ?_ _
          go_wp2
          obtain ⟨K, hK⟩ : ∃ K, K = (remL y L).length := ⟨_, rfl⟩
          rw [← hK] at HP8 ⊢
          have hs := HX8.out.set (.slice A8 K c8)
          have hp := HP8.out.done (.slice A8 K c8)
          generalize w8.setCell ⟨w.heap.size + 1, 0, none⟩ (.slice A8 K c8) = w9 at *
          have e1 := hs.1
          refine bodyPost_ret (v := .tuple #[.agg #[.slice A8 K c8], .bool true]) (by simp [results, Try.results13, go_sem, e1]) rfl (AddP.mk hK.symm hs.2 hp)
        · have h16' : ¬ (m2 : Int) + (e : Int) ≤ 16 := by omega
          have HLL : Hid (L.take (j + 1) ++ [d] ++ L.drop (j + 1 + 1) = remL y L) := Lib.hid (by rw [HREM.out, if_neg (by rw [HIL.out]; exact h0), if_neg (by rw [HLN.out]; exact hl), if_pos hk0, ← HB2.out, if_neg (by rw [HIL.out, ← HM2.out]; exact h16)])
          have HRB : Hid (∀ x ∈ [d], rightN x = true) := Lib.hid (by
            intro x hx
            exact HRA.out.right (by rw [← HLL.out, List.mem_append, List.mem_append]; exact .inl (.inr hx)))
          go_wp2_with (first
            | (go_at_call 33
               refine (with_any (F2 F w.heap.size) A _ n c (j + 1) (j + 1 + 1) 1 1 L [d] _ _ (F2.lt hF (HX7.out.on (below_alloc _ _)).lt) (HL.out.boxes (HX7.out.on (below_alloc _ _)).bel) hn (by omega) (by omega) (lkA HSK7.out) (by omega) rfl HRB.out).mono ?_
               rw [HLL.out]
               rintro e' w8 ⟨A8, c8, rfl, hb8, hp8⟩
               have HX8 := Lib.hid ((HX7.out.on (below_alloc _ _)).on hb8)
               have HP8 := Lib.hid hp8
               clear hb8 hp8
               have p0 := HX8.out.p0
               have p1 := HX8.out.p1
               have f1 := HX8.out.f1)
            | fail)
          obtain ⟨K, hK⟩ : ∃ K, K = (remL y L).length := ⟨_, rfl⟩
          rw [← hK] at HP8 ⊢
          have hs := HX8.out.set (.slice A8 K c8)
          have hp := HP8.out.done (.slice A8 K c8)
          generalize w8.setCell ⟨w.heap.size + 1, 0, none⟩ (.slice A8 K c8) = w9 at *
          have e1 := hs.1
          refine bodyPost_ret (v := .tuple #[.agg #[.slice A8 K c8], .bool true]) (by simp [results, Try.results13, go_sem, e1]) rfl (AddP.mk hK.symm hs.2 hp)
      · obtain rfl : k = 0 := by omega
        obtain rfl : n = 1 := by omega
        have HLL : Hid (L.take 0 ++ [d] ++ L.drop (0 + 1) = remL y L) := Lib.hid (by rw [HREM.out, if_neg (by rw [HIL.out]; exact h0), if_neg (by rw [HLN.out]; exact hl), if_neg hk0])
        have HRB : Hid (∀ x ∈ [d], rightN x = true) := Lib.hid (by
          intro x hx
          exact HRA.out.right (by rw [← HLL.out, List.mem_append, List.mem_append]; exact .inl (.inr hx)))
        go_wp2_with (first
          | (go_at_call 33
             refine (with_any (F2 F w.heap.size) A _ 1 c 0 1 1 1 L [d] _ _ (F2.lt hF (HX6.out.on (below_alloc _ _)).lt) (HL.out.boxes (HX6.out.on (below_alloc _ _)).bel) hn (by omega) (by omega) (lkA HSK.out) (by omega) rfl HRB.out).mono ?_
             rw [HLL.out]
             rintro e' w8 ⟨A8, c8, rfl, hb8, hp8⟩
             have HX8 := Lib.hid ((HX6.out.on (below_alloc _ _)).on hb8)
             have HP8 := Lib.hid hp8
             clear hb8 hp8
             have p0 := HX8.out.p0
             have p1 := HX8.out.p1
             have f1 := HX8.out.f1)
          | fail)
        obtain ⟨K, hK⟩ : ∃ K, K = (remL y L).length := ⟨_, rfl⟩
        rw [← hK] at HP8 ⊢
        have hs := HX8.out.set (.slice A8 K c8)
        have hp := HP8.out.done (.slice A8 K c8)
        generalize w8.setCell ⟨w.heap.size + 1, 0, none⟩ (.slice A8 K c8) = w9 at *
        have e1 := hs.1
        refine bodyPost_ret (v := .tuple #[.agg #[.slice A8 K c8], .bool true]) (by simp [results, Try.results13, go_sem, e1]) rfl (AddP.mk hK.symm hs.2 hp)
end Go.Proofs.Ytokjeglhmmijfaa
