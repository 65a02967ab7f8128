/-
  EncodeLeaf and Decode at a leaf's words; condition: a length that fits an int.
-/
import Derived.Test.YtkobgejeapcfkaaNkD
import Derived.Deep.RegionHeld3
namespace Go.Proofs.Ytkobgejeapcfkaa
open Go.RowKit Go.WideShapes Go.ChangeShapes
set_option linter.all false
def EncPost (k : ByteArray) (v : Int) (w : World) (e : Ending) (w' : World) : Prop :=
  ∃ g, e = .returned (.slice (some ⟨g, 0, none⟩) 8 8) ∧ Reads w' w'.heap.size 1 (some ⟨g, 0, none⟩) 8 (u64s (leafW k v)) ∧ Below w.heap.size w w'
theorem words_si (s : ByteArray) (c : Nat) (hc : cnt s.size = c) (hs : s.size ≤ 1000) (w : World) : Calls Try.prog 20 #[.string s] w fun e w' => ∃ g, e = .returned (.slice (some ⟨g, 0, none⟩) c c) ∧ Reads w' w'.heap.size 1 (some ⟨g, 0, none⟩) c (u64s (ws s)) ∧ Below w.heap.size w w' :=
  (pwords_any s w hs).mono fun e w' ⟨he, ho, hb⟩ => by
    subst hc
    exact ⟨_, he, (own_wb ho).whole (ws_len s), hb⟩
theorem reads_cells {w : World} {B n : Nat} {A : Option Addr} {xs : List Value} (h : Reads w B 1 A n xs) (hn : 0 < n) : ∃ ad, A = some ad ∧ ∀ j v, xs[j]? = some v → w.cell? (ad.add j) = some v := by
  obtain ⟨ad, e, _, hc⟩ := h.2 hn
  exact ⟨ad, e, hc⟩
theorem splice_u64 (L xs : List Int) (o : Nat) : splice (u64s L) o (u64s xs) = u64s (splice L o xs) := by
  unfold splice u64s
  simp [List.map_take, List.map_drop]
theorem leaf_list (k : ByteArray) (v : Int) (h1 : 1 ≤ cnt k.size) (h2 : cnt k.size ≤ 2) : (splice ((List.replicate 8 (0 : Int)).set 1 (256 * (k.size : Int))) 2 (ws k)).set 4 v = leafW k v := by
  have hl := ws_len k
  unfold leafW splice
  match hw : ws k, hl with
  | [], hl => simp at hl; omega
  | [a], hl => rfl
  | [a, b], hl => rfl
  | a :: b :: c :: r, hl => simp at hl; omega
set_option maxRecDepth 100000 in
set_option maxHeartbeats 1600000 in
theorem encLeaf_any (k : ByteArray) (v : Int) (h9 : k.size ≤ 9223372036854775807) (hok : leafOk k v = true) (w : World) : Calls Try.prog 7 #[.agg #[.string k, .int .i64 v]] w (EncPost k v w) := by
  obtain ⟨i0, hi0, hz0, hz1, hz2⟩ := info_parts info24
  obtain ⟨s1, s2, v1, v2⟩ := leafOk_size hok
  have hr := rightLeaf_any k v h9
  rw [hok] at hr
  have HOK := Lib.hid hok
  clear hok
  obtain ⟨c, hc⟩ : ∃ c, c = cnt k.size := ⟨_, rfl⟩
  have hc1 : 1 ≤ c ∧ c ≤ 2 := by rw [hc]; unfold cnt; omega
  have HC := Lib.hid hc
  have HC1 := Lib.hid hc1
  clear hc hc1
  have HSZ : Hid (k.size ≤ 1000) := Lib.hid (by omega)
  have hbox : (w.alloc (.cells #[.string k, .int .i64 v] 23)).cell? ⟨w.heap.size, 0, none⟩ = some (.string k) := cell_of_row _ _ 0 #[.string k, .int .i64 v] 23 (0, 0) (heap_alloc_new w _)
  have hbox1 : (w.alloc (.cells #[.string k, .int .i64 v] 23)).cell? ⟨w.heap.size, 1, none⟩ = some (.int .i64 v) := cell_of_row _ _ 1 #[.string k, .int .i64 v] 23 (0, 0) (heap_alloc_new w _)
  have HBX := Lib.hid hbox
  have HBX1 := Lib.hid hbox1
  have u1 : IntKind.u64.wrap (k.size : Int) = (k.size : Int) := IntWalk.u64_in _ (by omega)
  have u2 : IntKind.u64.wrap ((k.size : Int) * 256) = 256 * (k.size : Int) := by rw [IntWalk.u64_in _ (by omega)]; omega
  have u3 : IntKind.u64.wrap v = v := IntWalk.u64_in _ (by omega)
  clear hbox hbox1
  go_enter Try.func7, Try.ntmps7
  go_wp2_with (first
    | (go_at_call 5; refine (hr _).mono ?_
       rintro e w1 ⟨rfl, hb1⟩
       have HK1 : Hid (w1.cell? ⟨w.heap.size, 0, none⟩ = some (.string k)) := Lib.hid ((hb1.cell (by simp)).trans HBX.out)
       have HV1 : Hid (w1.cell? ⟨w.heap.size, 1, none⟩ = some (.int .i64 v)) := Lib.hid ((hb1.cell (by simp)).trans HBX1.out)
       have HB1 : Hid (Below w.heap.size w w1) := Lib.hid (after ((Below.refl w.heap.size w).alloc (Nat.le_refl _) _) hb1)
       have HL1 : Hid (w.heap.size < w1.heap.size) := Lib.hid (by have := hb1.size; simp at this; omega)
       clear hb1)
    | (go_at_call 19; refine (size0_any _).mono ?_; rintro e w' ⟨rfl, hw'⟩; rw [hw']; clear hw')
    | (refine wpList_make_full _ rfl (.tmp 7) (.tmp 7) 26 rfl w1.heap.size 28 i0 (.int .u64 0) 1 Try.underlying26 hi0 hz0 hz1 .i64 .i64 _ _ 8 rfl rfl rfl rfl (by rw [hz2]; omega) (by unfold maxLen; omega) (Nat.le_refl _) ?_
       intro w2 hown hg2
       rw [zeros_u64] at hown
       have HWB2 := Lib.hid (own_wb hown)
       have hb2 : Below w1.heap.size w1 w2 := (Below.refl _ _).grown hg2 (Nat.le_refl _) (by simp)
       have hk2 : w2.cell? ⟨w.heap.size, 0, none⟩ = some (.string k) := (hb2.cell HL1.out).trans HK1.out
       have HV2 : Hid (w2.cell? ⟨w.heap.size, 1, none⟩ = some (.int .i64 v)) := Lib.hid ((hb2.cell HL1.out).trans HV1.out)
       have HB2 := Lib.hid (after HB1.out hb2)
       have hcell2 : w2.cell? ⟨w1.heap.size, 1, none⟩ = some (.int .u64 0) := HWB2.out.cell 1 (by simp)
       have hfr2 : w2.frozen? ⟨w1.heap.size, 1, none⟩ = false := Blk.frozen HWB2.out 1
       obtain ⟨g, hg⟩ : ∃ g, g = w1.heap.size := ⟨_, rfl⟩
       have HGL : Hid (w.heap.size < g) := Lib.hid (by rw [hg]; exact HL1.out)
       have hne : ¬ g = w.heap.size := (by have := HGL.out; omega)
       rw [← hg] at hcell2 hfr2 HWB2 ⊢
       clear hown hg2 hb2 hg)
    | fail)
  obtain ⟨L1, hL1⟩ : ∃ L1, L1 = (List.replicate 8 (0 : Int)).set 1 (256 * (k.size : Int)) := ⟨_, rfl⟩
  have HL1' := Lib.hid hL1
  have HLL : Hid (L1.length = 8) := Lib.hid (by rw [hL1]; simp)
  obtain ⟨w3, hw3⟩ : ∃ w3, w3 = w2.setCell ⟨g, 1, none⟩ (.int .u64 (256 * (k.size : Int))) := ⟨_, rfl⟩
  have HWB3 : Hid (WB w3 g L1) := Lib.hid (by rw [hw3, hL1]; exact HWB2.out.set_ 1 _)
  have hk3 : w3.drew.cell? ⟨w.heap.size, 0, none⟩ = some (.string k) := by rw [hw3]; exact (World.cell?_setCell_other _ _ _ _ (by simp <;> omega)).trans hk2
  have HV3 : Hid (w3.drew.cell? ⟨w.heap.size, 1, none⟩ = some (.int .i64 v)) := Lib.hid (by rw [hw3]; exact (World.cell?_setCell_other _ _ _ _ (by simp <;> omega)).trans HV2.out)
  have HB3 : Hid (Below w.heap.size w w3.drew) := Lib.hid (by rw [hw3]; exact (HB2.out.setCell (by simp; have := HGL.out; omega) _).drew)
  have HLT : Hid (g < w3.drew.heap.size) := Lib.hid (Blk.lt HWB3.out)
  rw [← hw3]
  clear hL1 hw3 hk2 hcell2 hfr2 hne HWB2 HV2 HB2
  have Q1 : Hid ((u64s (ws k)).length = Nat.min c 2) := Lib.hid (by rw [u64s_len, ws_len, ← HC.out]; exact (Nat.min_eq_left HC1.out.2).symm)
  have Q3 : Hid (2 + (u64s (ws k)).length ≤ (u64s L1).length) := Lib.hid (by rw [u64s_len, u64s_len, ws_len, ← HC.out, HLL.out]; have := HC1.out.2; omega)
  have C0 : Hid (0 < (u64s (ws k)).length → 0 < c) := Lib.hid (by rw [u64s_len, ws_len, ← HC.out]; exact id)
  go_region_held3 (fun w' => w'.cell? ⟨w.heap.size, 0, none⟩ = some (.string k)) (first | (go_keep; done) | exact r1 | exact r2)
    (first
      | (go_at_call 20; refine (words_si k c HC.out.symm HSZ.out _).mono ?_
         rintro e w4 ⟨g4, rfl, hr4, hb4⟩
         have r1 : w4.cell? ⟨w.heap.size, 0, none⟩ = some (.string k) := (hb4.cell (World.block_lt_of_cell? _ _ hk3)).trans hk3
         have HV4 : Hid (w4.cell? ⟨w.heap.size, 1, none⟩ = some (.int .i64 v)) := Lib.hid ((hb4.cell (World.block_lt_of_cell? _ _ HV3.out)).trans HV3.out)
         have HWB4 : Hid (WB w4 g L1) := Lib.hid (Blk.below (w := w3.drew) (t := 28) (cs := (u64s L1).toArray) HWB3.out hb4 HLT.out)
         have HR4 := Lib.hid hr4
         have q2 : 0 < (u64s (ws k)).length → ∃ ad, some (⟨g4, 0, none⟩ : Addr) = some ad ∧ ∀ j v, (u64s (ws k))[j]? = some v → w4.cell? (ad.add j) = some v := fun hp => reads_cells HR4.out (C0.out hp)
         have Q2 := Lib.hid q2
         clear q2
         have HB4 := Lib.hid (after HB3.out hb4)
         clear hr4 hb4)
      | (refine step_copy_splice rfl (.tmp 17) (.tmp 20) 26 26 rfl 28 Try.underlying26 size28 (some ⟨g, 2, none⟩) (some ⟨g4, 0, none⟩) 2 6 c c rfl rfl g 2 (u64s L1) 28 HWB4.out (u64s (ws k)) Q1.out (fun hp => ⟨rfl, Q2.out hp⟩) Q3.out (u64s_one _) (w.heap.size + 1) w4 (Below.refl _ _) HGL.out ?_
         intro w5 hw5 hb5
         rw [splice_u64] at hw5
         have HWB5 : Hid (WB w5 g (splice L1 2 (ws k))) := hw5
         have r2 : w5.cell? ⟨w.heap.size, 0, none⟩ = some (.string k) := (hb5.cell (by simp)).trans r1
         have hv5 : w5.cell? ⟨w.heap.size, 1, none⟩ = some (.int .i64 v) := (hb5.cell (by simp)).trans HV4.out
         have HB5 : Hid (Below w.heap.size w w5) := Lib.hid (HB4.out.trans (hb5.mono (by omega)))
         clear hw5 hb5))
  have HSL : Hid ((splice L1 2 (ws k)).length = 8) := Lib.hid (by
    unfold splice
    have := ws_len k
    have := HC1.out
    have := HC.out
    have := HLL.out
    simp; omega)
  obtain ⟨y4, hy4⟩ : ∃ y, y = (splice L1 2 (ws k)).getD 4 0 := ⟨_, rfl⟩
  have hc54 : w5.cell? ⟨g, 4, none⟩ = some (.int .u64 y4) := by rw [hy4]; exact HWB5.out.cell 4 (by rw [HSL.out]; omega)
  have hf54 : w5.frozen? ⟨g, 4, none⟩ = false := Blk.frozen HWB5.out 4
  clear hy4
  go_wp2
  go_ret
  have hfin : WB (w5.setCell ⟨g, 4, none⟩ (.int .u64 v)) g (leafW k v) := by
    have h1 := HWB5.out.set_ 4 v
    rw [HL1'.out, leaf_list k v (by rw [← HC.out]; exact HC1.out.1) (by rw [← HC.out]; exact HC1.out.2)] at h1
    exact h1
  exact ⟨g, rfl, hfin.whole (leafW_len k v), HB5.out.setCell (by simp; have := HGL.out; omega) _⟩
theorem and255 : ((List.range 14).all fun n => bits .and .u64 (256 * (n : Int)) 255 == 0) = true := by kernel_rfl
set_option maxRecDepth 100000 in
set_option maxHeartbeats 1600000 in
theorem decode_leaf (k : ByteArray) (v : Int) (hs : k.size ≤ 13) (g : Nat) (w : World) (h : Reads w w.heap.size 1 (some ⟨g, 0, none⟩) 8 (u64s (leafW k v))) : Calls Try.prog 8 #[.slice (some ⟨g, 0, none⟩) 8 8] w fun e w' => e = .returned (.tuple #[.agg #[.int .i64 0, .int .u64 0, .string ⟨#[]⟩, .slice none 0 0, .slice none 0 0], .bool false]) ∧ Below w.heap.size w w' := by
  obtain ⟨ad, e, h1⟩ := h.u64at (k := 1) (by omega)
  injection e with e
  subst e
  have e1 : (leafW k v).getD 1 0 = 256 * (k.size : Int) := rfl
  rw [e1] at h1
  have h2 : w.cell? ⟨g, 1, none⟩ = some (.int .u64 (256 * (k.size : Int))) := by simpa [Addr.add] using h1
  have hg : g < w.heap.size := World.block_lt_of_cell? _ _ h2
  have hand : bits .and .u64 (256 * (k.size : Int)) 255 = 0 := by
    have := List.all_eq_true.1 and255 k.size (List.mem_range.2 (by omega))
    simpa using this
  clear h h1
  go_enter Try.func8, Try.ntmps8
  go_wp2_with (first
    | (go_at_call 21; refine (high0_any _).mono ?_; rintro e w' ⟨rfl, hw'⟩; rw [hw']; clear hw')
    | fail)
  exact bodyPost_ret (v := .tuple #[.agg #[.int .i64 0, .int .u64 0, .string ⟨#[]⟩, .slice none 0 0, .slice none 0 0], .bool false]) (by simp [results, Try.results8, go_sem]) rfl ⟨rfl, (Below.refl _ _).alloc (Nat.le_refl _) _⟩
end Go.Proofs.Ytkobgejeapcfkaa
