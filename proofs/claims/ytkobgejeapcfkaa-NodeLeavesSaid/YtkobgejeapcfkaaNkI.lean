/-
  The document's RightLeaf and EncodeLeaf; what is no leaf has no words; condition: a length that fits an int.
-/
import Derived.Test.YtkobgejeapcfkaaNkH
import Derived.Test.YtkobgejeapcfkaaNkT
namespace Go.Proofs.Ytkobgejeapcfkaa
open Go.RowKit Go.WideShapes Go.ChangeShapes
set_option linter.all false
theorem rsize0_any (w : World) : Calls Try.prog 25 #[.int .i64 0] w fun e w' => e = .returned (.int .i64 8) ∧ w' = w := by
  go_enter Try.func25, Try.ntmps25
  go_wp2
  go_ret
  exact ⟨rfl, rfl⟩
set_option maxRecDepth 100000 in
set_option maxHeartbeats 800000 in
theorem rrightLeaf_any (k : ByteArray) (v : Int) (h9 : k.size ≤ 9223372036854775807) (w : World) : Calls Try.prog 12 #[.agg #[.string k, .int .i64 v]] w fun e w' => e = .returned (.bool (leafOk k v)) ∧ Below w.heap.size w w' := by
  have ho := fun w => rterm_any k h9 w
  cases hk : ofOk k with
  | false =>
    rw [hk] at ho
    have hl : leafOk k v = false := by unfold leafOk; rw [hk]; rfl
    rw [hl]
    go_enter Try.func12, Try.ntmps12
    go_wp2_with (first
      | (go_at_call 27; refine (ho _).mono ?_; rintro e w1 ⟨rfl, rfl⟩)
      | fail)
    go_ret
    exact ⟨rfl, (Below.refl _ _).alloc (Nat.le_refl _) _⟩
  | true =>
    rw [hk] at ho
    by_cases h0 : 0 ≤ v
    · by_cases h1 : v ≤ 1099511627776
      · have hl : leafOk k v = true := by unfold leafOk; rw [hk, decide_eq_true h0, decide_eq_true h1]; rfl
        rw [hl]
        go_enter Try.func12, Try.ntmps12
        go_wp2_with (first
          | (go_at_call 27; refine (ho _).mono ?_; rintro e w1 ⟨rfl, rfl⟩)
          | fail)
        go_ret
        exact ⟨rfl, (Below.refl _ _).alloc (Nat.le_refl _) _⟩
      · have hl : leafOk k v = false := by unfold leafOk; rw [hk, decide_eq_true h0, decide_eq_false h1]; rfl
        rw [hl]
        go_enter Try.func12, Try.ntmps12
        go_wp2_with (first
          | (go_at_call 27; refine (ho _).mono ?_; rintro e w1 ⟨rfl, rfl⟩)
          | fail)
        go_ret
        exact ⟨by show Ending.returned (Value.bool (decide (v ≤ 1099511627776))) = _; rw [decide_eq_false (by omega)], (Below.refl _ _).alloc (Nat.le_refl _) _⟩
    · have hl : leafOk k v = false := by unfold leafOk; rw [hk, decide_eq_false h0]; rfl
      rw [hl]
      go_enter Try.func12, Try.ntmps12
      go_wp2_with (first
        | (go_at_call 27; refine (ho _).mono ?_; rintro e w1 ⟨rfl, rfl⟩)
        | fail)
      go_ret
      exact ⟨rfl, (Below.refl _ _).alloc (Nat.le_refl _) _⟩
theorem rwords_si (s : ByteArray) (c : Nat) (hc : cnt s.size = c) (hs : s.size ≤ 1000) (w : World) : Calls Try.prog 28 #[.string s] w fun e w' => ∃ g, e = .returned (.slice (some ⟨g, 0, none⟩) c c) ∧ Reads w' w'.heap.size 1 (some ⟨g, 0, none⟩) c (u64s (ws s)) ∧ Below w.heap.size w w' :=
  (rwords_any s w hs).mono fun e w' ⟨he, ho, hb⟩ => by
    subst hc
    exact ⟨_, he, (own_wb ho).whole (ws_len s), hb⟩
set_option maxRecDepth 100000 in
set_option maxHeartbeats 1600000 in
theorem rencLeaf_any (k : ByteArray) (v : Int) (h9 : k.size ≤ 9223372036854775807) (hok : leafOk k v = true) (w : World) : Calls Try.prog 13 #[.agg #[.string k, .int .i64 v]] w (EncPost k v w) := by
  obtain ⟨i0, hi0, hz0, hz1, hz2⟩ := info_parts info24
  obtain ⟨s1, s2, v1, v2⟩ := leafOk_size hok
  have hr := rrightLeaf_any k v h9
  rw [hok] at hr
  have HOK := Lib.hid hok
  clear hok
  obtain ⟨c, hc⟩ : ∃ c, c = cnt k.size := ⟨_, rfl⟩
  have hc1 : 1 ≤ c ∧ c ≤ 2 := by rw [hc]; unfold cnt; omega
  have HC := Lib.hid hc
  have HC1 := Lib.hid hc1
  clear hc hc1
  have HSZ : Hid (k.size ≤ 1000) := Lib.hid (by omega)
  have hbox : (w.alloc (.cells #[.string k, .int .i64 v] 23)).cell? ⟨w.heap.size, 0, none⟩ = some (.string k) := cell_of_row _ _ 0 #[.string k, .int .i64 v] 23 (0, 0) (heap_alloc_new w _)
  have hbox1 : (w.alloc (.cells #[.string k, .int .i64 v] 23)).cell? ⟨w.heap.size, 1, none⟩ = some (.int .i64 v) := cell_of_row _ _ 1 #[.string k, .int .i64 v] 23 (0, 0) (heap_alloc_new w _)
  have HBX := Lib.hid hbox
  have HBX1 := Lib.hid hbox1
  have u1 : IntKind.u64.wrap (k.size : Int) = (k.size : Int) := IntWalk.u64_in _ (by omega)
  have u2 : IntKind.u64.wrap ((k.size : Int) * 256) = 256 * (k.size : Int) := by rw [IntWalk.u64_in _ (by omega)]; omega
  have u3 : IntKind.u64.wrap v = v := IntWalk.u64_in _ (by omega)
  clear hbox hbox1
  go_enter Try.func13, Try.ntmps13
  go_wp2_with (first
    | (go_at_call 12; refine (hr _).mono ?_
       rintro e w1 ⟨rfl, hb1⟩
       have HK1 : Hid (w1.cell? ⟨w.heap.size, 0, none⟩ = some (.string k)) := Lib.hid ((hb1.cell (by simp)).trans HBX.out)
       have HV1 : Hid (w1.cell? ⟨w.heap.size, 1, none⟩ = some (.int .i64 v)) := Lib.hid ((hb1.cell (by simp)).trans HBX1.out)
       have HB1 : Hid (Below w.heap.size w w1) := Lib.hid (after ((Below.refl w.heap.size w).alloc (Nat.le_refl _) _) hb1)
       have HL1 : Hid (w.heap.size < w1.heap.size) := Lib.hid (by have := hb1.size; simp at this; omega)
       clear hb1)
    | (go_at_call 25; refine (rsize0_any _).mono ?_; rintro e w' ⟨rfl, hw'⟩; rw [hw']; clear hw')
    | (refine wpList_make_full _ rfl (.tmp 7) (.tmp 7) 26 rfl w1.heap.size 28 i0 (.int .u64 0) 1 Try.underlying26 hi0 hz0 hz1 .i64 .i64 _ _ 8 rfl rfl rfl rfl (by rw [hz2]; omega) (by unfold maxLen; omega) (Nat.le_refl _) ?_
       intro w2 hown hg2
       rw [zeros_u64] at hown
       have HWB2 := Lib.hid (own_wb hown)
       have hb2 : Below w1.heap.size w1 w2 := (Below.refl _ _).grown hg2 (Nat.le_refl _) (by simp)
       have hk2 : w2.cell? ⟨w.heap.size, 0, none⟩ = some (.string k) := (hb2.cell HL1.out).trans HK1.out
       have HV2 : Hid (w2.cell? ⟨w.heap.size, 1, none⟩ = some (.int .i64 v)) := Lib.hid ((hb2.cell HL1.out).trans HV1.out)
       have HB2 := Lib.hid (after HB1.out hb2)
       have hcell2 : w2.cell? ⟨w1.heap.size, 1, none⟩ = some (.int .u64 0) := HWB2.out.cell 1 (by simp)
       have hfr2 : w2.frozen? ⟨w1.heap.size, 1, none⟩ = false := Blk.frozen HWB2.out 1
       obtain ⟨g, hg⟩ : ∃ g, g = w1.heap.size := ⟨_, rfl⟩
       have HGL : Hid (w.heap.size < g) := Lib.hid (by rw [hg]; exact HL1.out)
       have hne : ¬ g = w.heap.size := (by have := HGL.out; omega)
       rw [← hg] at hcell2 hfr2 HWB2 ⊢
       clear hown hg2 hb2 hg)
    | fail)
  obtain ⟨L1, hL1⟩ : ∃ L1, L1 = (List.replicate 8 (0 : Int)).set 1 (256 * (k.size : Int)) := ⟨_, rfl⟩
  have HL1' := Lib.hid hL1
  have HLL : Hid (L1.length = 8) := Lib.hid (by rw [hL1]; simp)
  obtain ⟨w3, hw3⟩ : ∃ w3, w3 = w2.setCell ⟨g, 1, none⟩ (.int .u64 (256 * (k.size : Int))) := ⟨_, rfl⟩
  have HWB3 : Hid (WB w3 g L1) := Lib.hid (by rw [hw3, hL1]; exact HWB2.out.set_ 1 _)
  have hk3 : w3.drew.cell? ⟨w.heap.size, 0, none⟩ = some (.string k) := by rw [hw3]; exact (World.cell?_setCell_other _ _ _ _ (by simp <;> omega)).trans hk2
  have HV3 : Hid (w3.drew.cell? ⟨w.heap.size, 1, none⟩ = some (.int .i64 v)) := Lib.hid (by rw [hw3]; exact (World.cell?_setCell_other _ _ _ _ (by simp <;> omega)).trans HV2.out)
  have HB3 : Hid (Below w.heap.size w w3.drew) := Lib.hid (by rw [hw3]; exact (HB2.out.setCell (by simp; have := HGL.out; omega) _).drew)
  have HLT : Hid (g < w3.drew.heap.size) := Lib.hid (Blk.lt HWB3.out)
  rw [← hw3]
  clear hL1 hw3 hk2 hcell2 hfr2 hne HWB2 HV2 HB2
  have Q1 : Hid ((u64s (ws k)).length = Nat.min c 2) := Lib.hid (by rw [u64s_len, ws_len, ← HC.out]; exact (Nat.min_eq_left HC1.out.2).symm)
  have Q3 : Hid (2 + (u64s (ws k)).length ≤ (u64s L1).length) := Lib.hid (by rw [u64s_len, u64s_len, ws_len, ← HC.out, HLL.out]; have := HC1.out.2; omega)
  have C0 : Hid (0 < (u64s (ws k)).length → 0 < c) := Lib.hid (by rw [u64s_len, ws_len, ← HC.out]; exact id)
  go_region_held3 (fun w' => w'.cell? ⟨w.heap.size, 0, none⟩ = some (.string k)) (first | (go_keep; done) | exact r1 | exact r2)
    (first
      | (go_at_call 28; refine (rwords_si k c HC.out.symm HSZ.out _).mono ?_
         rintro e w4 ⟨g4, rfl, hr4, hb4⟩
         have r1 : w4.cell? ⟨w.heap.size, 0, none⟩ = some (.string k) := (hb4.cell (World.block_lt_of_cell? _ _ hk3)).trans hk3
         have HV4 : Hid (w4.cell? ⟨w.heap.size, 1, none⟩ = some (.int .i64 v)) := Lib.hid ((hb4.cell (World.block_lt_of_cell? _ _ HV3.out)).trans HV3.out)
         have HWB4 : Hid (WB w4 g L1) := Lib.hid (Blk.below (w := w3.drew) (t := 28) (cs := (u64s L1).toArray) HWB3.out hb4 HLT.out)
         have HR4 := Lib.hid hr4
         have q2 : 0 < (u64s (ws k)).length → ∃ ad, some (⟨g4, 0, none⟩ : Addr) = some ad ∧ ∀ j v, (u64s (ws k))[j]? = some v → w4.cell? (ad.add j) = some v := fun hp => reads_cells HR4.out (C0.out hp)
         have Q2 := Lib.hid q2
         clear q2
         have HB4 := Lib.hid (after HB3.out hb4)
         clear hr4 hb4)
      | (refine step_copy_splice rfl (.tmp 17) (.tmp 20) 26 26 rfl 28 Try.underlying26 size28 (some ⟨g, 2, none⟩) (some ⟨g4, 0, none⟩) 2 6 c c rfl rfl g 2 (u64s L1) 28 HWB4.out (u64s (ws k)) Q1.out (fun hp => ⟨rfl, Q2.out hp⟩) Q3.out (u64s_one _) (w.heap.size + 1) w4 (Below.refl _ _) HGL.out ?_
         intro w5 hw5 hb5
         rw [splice_u64] at hw5
         have HWB5 : Hid (WB w5 g (splice L1 2 (ws k))) := hw5
         have r2 : w5.cell? ⟨w.heap.size, 0, none⟩ = some (.string k) := (hb5.cell (by simp)).trans r1
         have hv5 : w5.cell? ⟨w.heap.size, 1, none⟩ = some (.int .i64 v) := (hb5.cell (by simp)).trans HV4.out
         have HB5 : Hid (Below w.heap.size w w5) := Lib.hid (HB4.out.trans (hb5.mono (by omega)))
         clear hw5 hb5))
  have HSL : Hid ((splice L1 2 (ws k)).length = 8) := Lib.hid (by
    unfold splice
    have := ws_len k
    have := HC1.out
    have := HC.out
    have := HLL.out
    simp; omega)
  obtain ⟨y4, hy4⟩ : ∃ y, y = (splice L1 2 (ws k)).getD 4 0 := ⟨_, rfl⟩
  have hc54 : w5.cell? ⟨g, 4, none⟩ = some (.int .u64 y4) := by rw [hy4]; exact HWB5.out.cell 4 (by rw [HSL.out]; omega)
  have hf54 : w5.frozen? ⟨g, 4, none⟩ = false := Blk.frozen HWB5.out 4
  clear hy4
  go_wp2
  go_ret
  have hfin : WB (w5.setCell ⟨g, 4, none⟩ (.int .u64 v)) g (leafW k v) := by
    have h1 := HWB5.out.set_ 4 v
    rw [HL1'.out, leaf_list k v (by rw [← HC.out]; exact HC1.out.1) (by rw [← HC.out]; exact HC1.out.2)] at h1
    exact h1
  exact ⟨g, rfl, hfin.whole (leafW_len k v), HB5.out.setCell (by simp; have := HGL.out; omega) _⟩
set_option maxRecDepth 100000 in
set_option maxHeartbeats 800000 in
theorem encLeaf_nil (k : ByteArray) (v : Int) (h9 : k.size ≤ 9223372036854775807) (hok : leafOk k v = false) (w : World) : Calls Try.prog 7 #[.agg #[.string k, .int .i64 v]] w fun e w' => e = .returned (.slice none 0 0) ∧ Below w.heap.size w w' := by
  have hr := rightLeaf_any k v h9
  rw [hok] at hr
  go_enter Try.func7, Try.ntmps7
  go_wp2_with (first
    | (go_at_call 5; refine (hr _).mono ?_
       rintro e w1 ⟨rfl, hb1⟩
       have HB1 : Hid (Below w.heap.size w w1) := Lib.hid (after ((Below.refl w.heap.size w).alloc (Nat.le_refl _) _) hb1)
       clear hb1)
    | fail)
  go_ret
  exact ⟨rfl, HB1.out⟩
set_option maxRecDepth 100000 in
set_option maxHeartbeats 800000 in
theorem rencLeaf_nil (k : ByteArray) (v : Int) (h9 : k.size ≤ 9223372036854775807) (hok : leafOk k v = false) (w : World) : Calls Try.prog 13 #[.agg #[.string k, .int .i64 v]] w fun e w' => e = .returned (.slice none 0 0) ∧ Below w.heap.size w w' := by
  have hr := rrightLeaf_any k v h9
  rw [hok] at hr
  go_enter Try.func13, Try.ntmps13
  go_wp2_with (first
    | (go_at_call 12; refine (hr _).mono ?_
       rintro e w1 ⟨rfl, hb1⟩
       have HB1 : Hid (Below w.heap.size w w1) := Lib.hid (after ((Below.refl w.heap.size w).alloc (Nat.le_refl _) _) hb1)
       clear hb1)
    | fail)
  go_ret
  exact ⟨rfl, HB1.out⟩
end Go.Proofs.Ytkobgejeapcfkaa
