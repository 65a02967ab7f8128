/-
  posting.Add of an id that isn't there; conditions: a right list.
-/
import Derived.Test.YtokjeglhmmijfaaPsb
namespace Go.Proofs.Ytokjeglhmmijfaa
open Go.RowKit Go.WideShapes Go.ChangeShapes
set_option linter.all false
theorem add_len_le {x : Nat} {L : List (List Nat)} : (addL x L).length ≤ L.length + 1 := by
  unfold addL
  split
  · simp
  · rename_i h
    have := kOf_lt (x := x) h
    simp only
    split <;> simp <;> omega
theorem lkA {w : World} {A : Option Addr} {n c : Nat} {l : List Int} (h : SK .i64 w w.heap.size A n c l) :
    LK .i64 (w.alloc (.cells #[.slice A n c] 28)) (w.alloc (.cells #[.slice A n c] 28)).heap.size (some ⟨w.heap.size, 0, none⟩) 1 1 [⟨A, n, c, l⟩] :=
  LK.lit 28 [⟨A, n, c, l⟩] #[.slice A n c] rfl (by simp) (fun e he => by rw [List.mem_singleton] at he; subst he; exact h)
theorem lkB {w : World} {A A' : Option Addr} {n c n' c' : Nat} {l l' : List Int} (h : SK .i64 w w.heap.size A n c l) (h' : SK .i64 w w.heap.size A' n' c' l') :
    LK .i64 (w.alloc (.cells #[.slice A n c, .slice A' n' c'] 28)) (w.alloc (.cells #[.slice A n c, .slice A' n' c'] 28)).heap.size (some ⟨w.heap.size, 0, none⟩) 2 2 [⟨A, n, c, l⟩, ⟨A', n', c', l'⟩] :=
  LK.lit 28 [⟨A, n, c, l⟩, ⟨A', n', c', l'⟩] #[.slice A n c, .slice A' n' c'] rfl (by simp) (fun e he => by
    rcases List.mem_cons.1 he with rfl | he
    · exact h
    · rw [List.mem_singleton] at he; subst he; exact h')
theorem sk1 (w : World) (x : Int) : SK .i64 (w.alloc (.cells #[.int .i64 x] 3)) (w.alloc (.cells #[.int .i64 x] 3)).heap.size (some ⟨w.heap.size, 0, none⟩) 1 1 [x] :=
  SK.of (Reads.lit w 3 #[.int .i64 x]) (Nat.le_refl _) (by unfold maxLen; omega)
theorem lk1 (w : World) (y : Nat) : LK .i64 ((w.alloc (.cells #[.int .i64 (y : Int)] 3)).alloc (.cells #[.slice (some ⟨w.heap.size, 0, none⟩) 1 1] 28)) ((w.alloc (.cells #[.int .i64 (y : Int)] 3)).alloc (.cells #[.slice (some ⟨w.heap.size, 0, none⟩) 1 1] 28)).heap.size (some ⟨w.heap.size + 1, 0, none⟩) 1 1 [⟨some ⟨w.heap.size, 0, none⟩, 1, 1, nb [y]⟩]
    ∧ Below w.heap.size w ((w.alloc (.cells #[.int .i64 (y : Int)] 3)).alloc (.cells #[.slice (some ⟨w.heap.size, 0, none⟩) 1 1] 28)) := by
  refine ⟨?_, ((Below.refl _ _).alloc (Nat.le_refl _) _).alloc (by simp) _⟩
  have := lkA (sk1 w (y : Int))
  simp only [World.size_alloc] at this ⊢
  exact this
set_option maxRecDepth 100000 in
set_option maxHeartbeats 1600000 in
theorem add_nil (w : World) (F : Nat → Prop) (hF : ∀ b, F b → b < w.heap.size) (A : Option Addr) (c : Nat) (y : Nat) (h : PLF w F A 0 c []) (hy : y ≤ 1073741824) :
    Calls Try.prog 12 #[plV A 0 c, .int .i64 (y : Int)] w (AddP F (addL y []) true w) := by
  obtain ⟨wb, hwb⟩ : ∃ wb, (w.alloc (.cells #[.slice A 0 c] 24)).alloc (.cells #[.slice none 0 0] 24) = wb := ⟨_, rfl⟩
  have HX : Hid (B2 A 0 c w wb) := Lib.hid (hwb ▸ B2.new A 0 c w)
  have HW := Lib.hid hwb
  have HL := Lib.hid h
  have p0 := HX.out.p0
  have p1 := HX.out.p1
  have f1 := HX.out.f1
  have HC : Hid (Calls Try.prog 21 #[plV A 0 c, .int .i64 (y : Int)] wb fun e w' => e = .returned (.bool false) ∧ Below wb.heap.size wb w') := Lib.hid (has_any A 0 c [] y wb (h.pl.on HX.out.bel) RL.nil (by omega))
  have HI : Hid (true = decide (0 ≤ (y : Int) ∧ (y : Int) ≤ 1073741824)) := Lib.hid (by rw [decide_eq_true]; omega)
  have HRY : Hid (rightN [y] = true) := Lib.hid (by simp [rightN, ascB, hy])
  clear h hwb
  unfold plV at HC ⊢
  go_enter Try.func12, Try.ntmps12
  go_upto_region 1 with (fail)
  rw [HW.out]
  go_upto_region 4 with (first
    | (go_at_call 30; refine (isid_any _ true HI.out _).mono ?_; rintro e w2 ⟨rfl, hw2⟩; rw [hw2]; clear hw2)
    | (go_at_call 21; refine HC.out.mono ?_; rintro e w2 ⟨rfl, hb2⟩; have HX2 := Lib.hid (HX.out.on hb2); clear hb2
       have p0 := HX2.out.p0)
    | fail)
  clear p1 f1
  obtain ⟨W, hW⟩ : ∃ W, (w2.alloc (.cells #[.int .i64 (y : Int)] 3)).alloc (.cells #[.slice (some ⟨w2.heap.size, 0, none⟩) 1 1] 28) = W := ⟨_, rfl⟩
  have hlk := lk1 w2 y
  rw [hW] at hlk
  have HLK := Lib.hid hlk
  have HWW := Lib.hid hW
  clear hlk hW
  go_wp2_with (first
    | (go_at_call 33
       rw [HWW.out]
       refine (with_any (F2 F w.heap.size) A _ 0 c 0 0 1 1 [] [[y]] _ _ (F2.lt hF (HX2.out.on HLK.out.2).lt) (HL.out.boxes (HX2.out.on HLK.out.2).bel) (by omega) (by omega) (by omega) HLK.out.1 (by omega) rfl (by intro b hb; rw [List.mem_singleton] at hb; subst hb; exact HRY.out)).mono ?_
       rintro e w3 ⟨A3, c3, rfl, hb3, hp3⟩
       have HX3 := Lib.hid ((HX2.out.on HLK.out.2).on hb3)
       have HP3 : Hid (PLF w3 (F2 F w.heap.size) A3 1 c3 [[y]]) := Lib.hid hp3
       clear hb3 hp3
       have p1 := HX3.out.p1
       have f1 := HX3.out.f1)
    | fail)
  have hs := HX3.out.set (.slice A3 1 c3)
  have hp := HP3.out.done (.slice A3 1 c3)
  generalize w3.setCell ⟨w.heap.size + 1, 0, none⟩ (.slice A3 1 c3) = w9 at *
  have e1 := hs.1
  refine bodyPost_ret (v := .tuple #[.agg #[.slice A3 1 c3], .bool true]) (by simp [results, Try.results12, go_sem, e1]) rfl (AddP.mk rfl hs.2 hp)
theorem nb_take (l : List Nat) (k : Nat) : nb (l.take k) = (nb l).take k := by unfold nb; rw [List.map_take]
theorem ks_ins (y : Nat) (b : List Nat) : (ks .i64 (nb b)).take (lowI y b) ++ .int .i64 (y : Int) :: (ks .i64 (nb b)).drop (lowI y b) = ks .i64 (nb (insB y b)) := by
  unfold insB ks nb
  simp
theorem has_not {y : Nat} {l : List Nat} (h : hasB y l = false) : ¬ y ∈ l := by
  intro hm
  unfold hasB at h
  rw [decide_eq_false_iff_not] at h
  exact h ⟨y, hm, rfl⟩
set_option maxRecDepth 100000 in
set_option maxHeartbeats 3200000 in
theorem add_more (w : World) (F : Nat → Prop) (hF : ∀ b, F b → b < w.heap.size) (A : Option Addr) (n c : Nat) (L : List (List Nat)) (y : Nat) (h : PLF w F A n c L) (hR : RL L) (hn : n ≤ 1000000) (hne : L ≠ []) (hy : y ≤ 1073741824) (hh : hasB y L.flatten = false) :
    Calls Try.prog 12 #[plV A n c, .int .i64 (y : Int)] w (AddP F (addL y L) true w) := by
  have hRA := add_right hR hy (has_not hh)
  have HRA := Lib.hid hRA
  have HR := Lib.hid hR
  have HL := Lib.hid h
  have HLN := Lib.hid h.len
  obtain ⟨k, hk⟩ : ∃ k, k = kOf (y : Int) L := ⟨_, rfl⟩
  have hkn : k < n := by rw [hk, ← h.len]; exact kOf_lt hne
  obtain ⟨b, hb⟩ : ∃ b, b = L.getD k [] := ⟨_, rfl⟩
  have hkl : k < L.length := by rw [h.len]; exact hkn
  have hbm : b ∈ L := by rw [hb]; exact getD_mem hkl
  have hbl := hR.len b hbm
  have HAB : Hid (ascB 0 b = true) := Lib.hid (hR.block hbm)
  obtain ⟨q, hq⟩ : ∃ q, q = lowI (y : Int) b := ⟨_, rfl⟩
  have hqm : q ≤ b.length := by rw [hq]; exact lowI_le _ _
  have HK := Lib.hid hk
  have HB := Lib.hid hb
  have HQ := Lib.hid hq
  have hadd : addL y L = if (insB y b).length ≤ 16 then L.take k ++ [insB y b] ++ L.drop (k + 1) else L.take k ++ [(insB y b).take (((insB y b).length + 1) / 2), (insB y b).drop (((insB y b).length + 1) / 2)] ++ L.drop (k + 1) := by
    unfold addL; rw [if_neg hne]; simp only; rw [← hk, ← hb]
  have HADD := Lib.hid hadd
  have HIL := Lib.hid (insB_len y b)
  obtain ⟨wb, hwb⟩ : ∃ wb, (w.alloc (.cells #[.slice A n c] 24)).alloc (.cells #[.slice none 0 0] 24) = wb := ⟨_, rfl⟩
  have HX : Hid (B2 A n c w wb) := Lib.hid (hwb ▸ B2.new A n c w)
  have HW := Lib.hid hwb
  have p0 := HX.out.p0
  have HC : Hid (Calls Try.prog 21 #[plV A n c, .int .i64 (y : Int)] wb fun e w' => e = .returned (.bool false) ∧ Below wb.heap.size wb w') := Lib.hid (by
    have := has_any A n c L y wb (h.pl.on HX.out.bel) hR hn; rw [hh] at this; exact this)
  have HI : Hid (true = decide (0 ≤ (y : Int) ∧ (y : Int) ≤ 1073741824)) := Lib.hid (by rw [decide_eq_true]; omega)
  obtain ⟨m, hm⟩ : ∃ m, m = b.length := ⟨_, rfl⟩
  rw [← hm] at hbl hqm
  have HM := Lib.hid hm
  have hn0 : ¬ n = 0 := by omega
  have hn0' : ((n : Int) == 0) = false := by simp; omega
  clear h hwb hk hb hq hadd hRA hR hbm hkl hne hh hm
  unfold plV at HC ⊢
  go_enter Try.func12, Try.ntmps12
  go_upto_region 1 with (fail)
  rw [HW.out]
  go_upto_region 5 with (first
    | (go_at_call 30; refine (isid_any _ true HI.out _).mono ?_; rintro e w2 ⟨rfl, hw2⟩; rw [hw2]; clear hw2)
    | (go_at_call 21; refine HC.out.mono ?_; rintro e w2 ⟨rfl, hb2⟩; have HX2 := Lib.hid (HX.out.on hb2); clear hb2
       have p0 := HX2.out.p0)
    | fail)
  go_upto_region 6 with (first
    | (go_at_call 34; refine (blockOf_any A n c L y _ (HL.out.pl.on HX2.out.bel) HR.out hn).mono ?_; rintro e w3 ⟨rfl, hb3⟩; rw [← HK.out]; have HX3 := Lib.hid (HX2.out.on hb3); clear hb3
       have p0 := HX3.out.p0)
    | fail)
  go_upto_region 7 with (first
    | (go_at_call 35; refine (block_any A n c k L _ (HL.out.pl.on HX3.out.bel) HR.out hkn).mono ?_; rintro e w4 ⟨A4, c4, rfl, hb4, hm4⟩
       rw [← HB.out, ← HM.out] at hm4 ⊢
       have HX4 := Lib.hid (HX3.out.on hb4)
       have HM4 := Lib.hid hm4
       have HS4 := Lib.hid hb4.size
       clear hb4 hm4
       have p0 := HX4.out.p0)
    | fail)
  go_upto_region 8 with (first
    | (go_at_call 36; refine (bs_any _ _ m _ b y _ HM4.out.reads (by omega) HAB.out).mono ?_; rintro e w5 ⟨rfl, hw5⟩; rw [hw5]; clear hw5; rw [← HQ.out])
    | fail)
  obtain ⟨W5, hW5⟩ : ∃ W5, w4.alloc (.cells #[.int .i64 (y : Int)] 3) = W5 := ⟨_, rfl⟩
  have HX5 : Hid (B2 A n c w W5) := Lib.hid (hW5 ▸ HX4.out.on (below_alloc _ _))
  have HM5 : Hid (Mid W5 w3.heap.size 3 1 (.slice A4 m c4) m (ks .i64 (nb b))) := Lib.hid (hW5 ▸ HM4.out.alloc_ _)
  have HV5 : Hid (W5.heap[w4.heap.size]? = some (.cells #[.int .i64 (y : Int)] 3 (0, 0))) := Lib.hid (hW5 ▸ heap_alloc_new w4 _)
  have HZ5 : Hid (W5.heap.size = w4.heap.size + 1) := Lib.hid (by rw [← hW5]; simp)
  have HW5 := Lib.hid hW5
  clear hW5
  go_upto_region 9 with (first
    | (go_at_call 37
       rw [HW5.out]
       refine (ins_mid_int w3.heap.size A4 m c4 q (ks .i64 (nb b)) (.int .i64 (y : Int)) w4.heap.size 1 W5 HM5.out (by omega) (by omega) (by have := HZ5.out; have := HS4.out; omega) HV5.out (fun g hg => by have := (HM4.out.lt g hg).2; omega) (ks_one _ _) rfl).mono ?_
       rintro e w6 ⟨v6, rfl, hm6, hr6⟩
       rw [HQ.out, ks_ins] at hm6
       obtain ⟨A6, c6, e6⟩ := hm6.form
       subst e6
       have HX6 : Hid (B2 A n c w w6) := Lib.hid (HX5.out.onm (k := w3.heap.size) HX3.out.lt (ran_below HM5.out hr6 (Nat.le_refl _) (by have := HZ5.out; have := HS4.out; omega)))
       have HM6 := Lib.hid hm6
       clear hm6 hr6
       have p0 := HX6.out.p0)
    | fail)
  have HSK := Lib.hid HM6.out.sk
  by_cases h16 : m + 1 ≤ 16
  · have h16' : ((m : Int) + 1 ≤ 16) := by omega
    have HLL : Hid (L.take k ++ [insB y b] ++ L.drop (k + 1) = addL y L) := Lib.hid (by rw [HADD.out, if_pos (by rw [HIL.out, ← HM.out]; exact h16)])
    have HRB : Hid (∀ d ∈ [insB y b], rightN d = true) := Lib.hid (by
      intro d hd
      rw [List.mem_singleton] at hd
      subst hd
      exact HRA.out.right (by rw [← HLL.out]; simp))
    go_wp2_with (first
      | (go_at_call 33
         refine (with_any (F2 F w.heap.size) A _ n c k (k + 1) 1 1 L [insB y b] _ _ (F2.lt hF (HX6.out.on (below_alloc _ _)).lt) (HL.out.boxes (HX6.out.on (below_alloc _ _)).bel) hn (by omega) (by omega) (lkA HSK.out) (by omega) rfl HRB.out).mono ?_
         rw [HLL.out]
         rintro e w8 ⟨A8, c8, rfl, hb8, hp8⟩
         have HX8 := Lib.hid ((HX6.out.on (below_alloc _ _)).on hb8)
         have HP8 := Lib.hid hp8
         clear hb8 hp8
         have p1 := HX8.out.p1
         have f1 := HX8.out.f1)
      | fail)
    obtain ⟨K, hK⟩ : ∃ K, K = (addL y L).length := ⟨_, rfl⟩
    rw [← hK] at HP8 ⊢
    have hs := HX8.out.set (.slice A8 K c8)
    have hp := HP8.out.done (.slice A8 K c8)
    generalize w8.setCell ⟨w.heap.size + 1, 0, none⟩ (.slice A8 K c8) = w9 at *
    have e1 := hs.1
    refine bodyPost_ret (v := .tuple #[.agg #[.slice A8 K c8], .bool true]) (by simp [results, Try.results12, go_sem, e1]) rfl (AddP.mk hK.symm hs.2 hp)
  · obtain rfl : m = 16 := by omega
    have HKW : Hid (IntKind.i64.wrap ((k : Int) + 1) = ((k + 1 : Nat) : Int)) := Lib.hid (by rw [IntWalk.i64_in _ (by omega)]; omega)
    have hcp := HM6.out.caps
    have c9 : ¬ c6 = 9 := by omega
    have c9' : (9 : Int) ≤ c6 := by omega
    have c17 : (17 : Int) ≤ c6 := by omega
    have HIB : Hid ((insB y b).length = 17) := Lib.hid (by rw [HIL.out, ← HM.out])
    have HLL : Hid (L.take k ++ [(insB y b).take 9, (insB y b).drop 9] ++ L.drop (k + 1) = addL y L) := Lib.hid (by rw [HADD.out, if_neg (by rw [HIB.out]; decide), HIB.out])
    have HRB : Hid (∀ d ∈ [(insB y b).take 9, (insB y b).drop 9], rightN d = true) := Lib.hid (by
      intro d hd
      exact HRA.out.right (by rw [← HLL.out, List.mem_append, List.mem_append]; exact .inl (.inr hd)))
    have hA6 : ∃ ad, A6 = some ad := by
      rcases HM6.out.2 with ⟨h', h0⟩ | ⟨g, off, cap, cur, h', _⟩
      · omega
      · simp only [Value.slice.injEq] at h'; exact ⟨_, h'.1⟩
    obtain ⟨ad6, rfl⟩ := hA6
    have HT1 : Hid (SK .i64 w6 w6.heap.size (some ad6) 9 c6 (nb ((insB y b).take 9))) := Lib.hid (by have := HSK.out.take (k := 9) (by omega); rw [← nb_take] at this; exact this)
    have HT2 : Hid (SK .i64 w6 w6.heap.size (some (ad6.add 9)) 8 (c6 - 9) (nb ((insB y b).drop 9))) := Lib.hid (by have := HSK.out.drop (k := 9) (by omega); rw [if_neg c9, ← nb_drop] at this; exact this)
    go_upto_region 12 with (fail)
    have hS : (fun w' : World => w'.cell? ⟨w.heap.size, 0, none⟩ = some (.slice A n c)) w6.drew := p0
    refine wp_region_T (fun w' : World => w'.cell? ⟨w.heap.size, 0, none⟩ = some (.slice A n c)) 12 (by kernel_rfl) ?_
    refine wpAnyT_take (i := 0) (oi := _) (v := ?_) (by rfl) (by kernel_rfl) (by intro _ _ _ h; exact h) hS (Or.inl ⟨by rfl, ?_⟩) ?_
    rotate_left 1
    · intro w' hl1
      go_simp
      all_goals with_reducible rfl
    simp only [Act.put, List.setIfInBounds_toArray, List.set_cons_zero, List.set_cons_succ]
    refine wpAnyT_take (i := 1) (oi := _) (v := ?_) (by rfl) (by kernel_rfl) (by intro _ _ _ h; exact h) hS (Or.inl ⟨by rfl, ?_⟩) ?_
    rotate_left 1
    · intro w' hl1
      go_simp
      all_goals with_reducible rfl
    simp only [Act.put, List.setIfInBounds_toArray, List.set_cons_zero, List.set_cons_succ]
    refine wpAnyT_take (i := 2) (oi := _) (v := ?_) (by rfl) (by kernel_rfl) (by intro _ _ _ h; exact h) hS (Or.inl ⟨by rfl, ?_⟩) ?_
    rotate_left 1
    · intro w' hl1
      go_simp
      all_goals with_reducible rfl
    simp only [Act.put, List.setIfInBounds_toArray, List.set_cons_zero, List.set_cons_succ]
    refine wpAnyT_take (i := 3) (oi := _) (v := ?_) (by rfl) (by kernel_rfl) (by intro _ _ _ h; exact h) hS (Or.inl ⟨by rfl, ?_⟩) ?_
    rotate_left 1
    · intro w' hl1
      go_simp
      all_goals with_reducible rfl
    simp only [Act.put, List.setIfInBounds_toArray, List.set_cons_zero, List.set_cons_succ]
    refine wpAnyT_take (i := 4) (oi := _) (v := ?_) (by rfl) (by kernel_rfl) (by intro _ _ _ h; exact h) hS (Or.inl ⟨by rfl, ?_⟩) ?_
    rotate_left 1
    · intro w' hl1
      go_simp
      all_goals with_reducible rfl
    simp only [Act.put, List.setIfInBounds_toArray, List.set_cons_zero, List.set_cons_succ]
    refine wpAnyT_take (i := 5) (oi := _) (v := ?_) (by rfl) (by kernel_rfl) (by intro _ _ _ h; exact h) hS (Or.inl ⟨by rfl, ?_⟩) ?_
    rotate_left 1
    · intro w' hl1
      go_simp
      all_goals with_reducible rfl
    simp only [Act.put, List.setIfInBounds_toArray, List.set_cons_zero, List.set_cons_succ]
    refine wpAnyT_take (i := 6) (oi := _) (v := ?_) (by rfl) (by kernel_rfl) (by intro _ _ _ h; exact h) hS (Or.inl ⟨by rfl, ?_⟩) ?_
    rotate_left 1
    · intro w' hl1
      go_simp
      all_goals with_reducible rfl
    simp only [Act.put, List.setIfInBounds_toArray, List.set_cons_zero, List.set_cons_succ]
    refine wpAnyT_take (i := 7) (oi := _) (v := ?_) (by rfl) (by kernel_rfl) (by intro _ _ _ h; exact h) hS (Or.inl ⟨by rfl, ?_⟩) ?_
    rotate_left 1
    · intro w' hl1
      go_simp
      all_goals with_reducible rfl
    simp only [Act.put, List.setIfInBounds_toArray, List.set_cons_zero, List.set_cons_succ]
    refine wpAnyT_take (i := 8) (oi := _) (v := ?_) (by rfl) (by kernel_rfl) (by intro _ _ _ h; exact h) hS (Or.inl ⟨by rfl, ?_⟩) ?_
    rotate_left 1
    · intro w' hl1
      go_simp
      all_goals with_reducible rfl
    simp only [Act.put, List.setIfInBounds_toArray, List.set_cons_zero, List.set_cons_succ]
    refine wpAnyT_take (i := 9) (oi := _) (v := ?_) (by rfl) (by kernel_rfl) (by intro _ _ _ h; exact h) hS (Or.inl ⟨by rfl, ?_⟩) ?_
    rotate_left 1
    · intro w' hl1
      go_simp
      all_goals with_reducible rfl
    simp only [Act.put, List.setIfInBounds_toArray, List.set_cons_zero, List.set_cons_succ]
    refine wpAnyT_all (rs := [10]) (by kernel_rfl) (by simp) ?_
    intro ix hix
    simp only [List.mem_cons, List.not_mem_nil, or_false] at hix
    subst hix
    refine wpT_op (o := _) (by rfl) (fun K hK => ?_)
    go_simp
    obtain ⟨W7, hW7⟩ : ∃ W7, (w6.alloc (.cells #[.slice (some ad6) 9 c6, .slice (some ⟨ad6.block, ad6.off + 9, none⟩) 8 (c6 - 9)] 28)).drew = W7 := ⟨_, rfl⟩
    have HB7 : Hid (Below w6.heap.size w6 W7) := Lib.hid (hW7 ▸ (below_alloc w6 _).trans ((below_drew _).mono (by simp)))
    have HLK : Hid (LK .i64 W7 W7.heap.size (some ⟨w6.heap.size, 0, none⟩) 2 2 [⟨some ad6, 9, c6, nb ((insB y b).take 9)⟩, ⟨some ⟨ad6.block, ad6.off + 9, none⟩, 8, c6 - 9, nb ((insB y b).drop 9)⟩]) := Lib.hid (hW7 ▸ (lkB (w := w6) (A' := some ⟨ad6.block, ad6.off + 9, none⟩) HT1.out HT2.out).on (below_drew _))
    rw [hW7]
    have HX7 := Lib.hid (HX6.out.on HB7.out)
    have hS7 := HX7.out.p0
    clear hW7
    refine hK _ _ (fun _ => hS7) ?_
    clear hK K
    try simp only [Act.put, List.setIfInBounds_toArray, List.set_cons_zero, List.set_cons_succ]
    refine wpAnyT_all (rs := [11]) (by kernel_rfl) (by simp) ?_
    intro ix hix
    simp only [List.mem_cons, List.not_mem_nil, or_false] at hix
    subst hix
    refine wpT_op (o := _) (by rfl) (fun K hK => ?_)
    go_simp
    go_at_call 33
    rw [HKW.out]
    refine (with_any (F2 F w.heap.size) A _ n c k (k + 1) 2 2 L [(insB y b).take 9, (insB y b).drop 9] _ _ (F2.lt hF HX7.out.lt) (HL.out.boxes HX7.out.bel) hn (by omega) (by omega) HLK.out (by omega) rfl HRB.out).mono ?_
    rw [HLL.out]
    rintro e w8 ⟨A8, c8, rfl, hb8, hp8⟩
    have HX8 := Lib.hid (HX7.out.on hb8)
    have HP8 := Lib.hid hp8
    clear hb8 hp8
    have hS8 := HX8.out.p0
    have p1 := HX8.out.p1
    have f1 := HX8.out.f1
    refine hK _ _ (fun _ => hS8) ?_
    clear hK K
    try simp only [Act.put, List.setIfInBounds_toArray, List.set_cons_zero, List.set_cons_succ]
    refine wpAnyT_all (rs := [12]) (by kernel_rfl) (by simp) ?_
    intro ix hix
    simp only [List.mem_cons, List.not_mem_nil, or_false] at hix
    subst hix
    refine wpT_op (o := _) (by rfl) (fun K hK => ?_)
    go_simp
    refine hK _ _ (fun h => absurd h (by omega)) ?_
    clear hK K
    try simp only [Act.put, List.setIfInBounds_toArray, List.set_cons_zero, List.set_cons_succ]
    refine wpAnyT_all (rs := [13]) (by kernel_rfl) (by simp) ?_
    intro ix hix
    simp only [List.mem_cons, List.not_mem_nil, or_false] at hix
    subst hix
    refine wpT_op (o := _) (by rfl) (fun K hK => ?_)
    go_simp
    refine hK _ _ (fun h => absurd h (by omega)) ?_
    clear hK K
    try simp only [Act.put, List.setIfInBounds_toArray, List.set_cons_zero, List.set_cons_succ]
    refine wpAnyT_done (by kernel_rfl) ?_ _
    go_wp2
    obtain ⟨K, hK⟩ : ∃ K, K = (addL y L).length := ⟨_, rfl⟩
    rw [← hK] at HP8 ⊢
    have hs := HX8.out.set (.slice A8 K c8)
    have hp := HP8.out.done (.slice A8 K c8)
    generalize w8.setCell ⟨w.heap.size + 1, 0, none⟩ (.slice A8 K c8) = w9 at *
    have e1 := hs.1
    refine bodyPost_ret (v := .tuple #[.agg #[.slice A8 K c8], .bool true]) (by simp [results, Try.results12, go_sem, e1]) rfl (AddP.mk hK.symm hs.2 hp)
end Go.Proofs.Ytokjeglhmmijfaa
