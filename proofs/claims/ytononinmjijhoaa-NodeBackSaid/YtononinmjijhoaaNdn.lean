/-
  node.Encode at a right node: its words; conditions: lengths.
-/
import Derived.Test.YtononinmjijhoaaNdm
import Derived.Deep.RegionHeld3
namespace Go.Proofs.Ytononinmjijhoaa
open Go.RowKit Go.WideShapes Go.ChangeShapes
set_option linter.all false
theorem info22 : (Try.prog.info? 22).map (fun i => (i.zero, i.size, i.bytes)) = some (some (.int .u64 0), 1, 8) := by kernel_rfl
theorem size22 : (Try.prog.info? 22).map (·.size) = some 1 := by kernel_rfl
/-- The second word of a node: its kind and its lengths. -/
def hdW (kd : Int) (p n : Nat) : Int := bits .or .u64 (bits .or .u64 kd (256 * (p : Int))) (65536 * (n : Int))
/-- Words laid at the places that xs names. -/
def pz (L : List Int) (xs ys : List Int) : Nat → List Int
  | 0 => L
  | j + 1 => (pz L xs ys j).set (4 + xs.getD j 0).toNat (ys.getD j 0)
theorem pz_len (L xs ys : List Int) : ∀ j, (pz L xs ys j).length = L.length
  | 0 => rfl
  | j + 1 => by rw [pz, List.length_set, pz_len L xs ys j]
/-- The words of a node. -/
def encW (kd wd : Int) (pf : ByteArray) (xs ys : List Int) (n : Nat) : List Int :=
  if kd = 1 then pk (splice (splice (((List.replicate 12 (0 : Int)).set 0 wd).set 1 (hdW 1 pf.size n)) 2 (ws pf)) 4 (ws (strOfNums xs))) 5 ys n
  else if kd = 2 then pk (splice (splice (((List.replicate 24 (0 : Int)).set 0 wd).set 1 (hdW 2 pf.size n)) 2 (ws pf)) 4 (ws (strOfNums xs))) 6 ys n
  else if kd = 3 then pk (splice (splice (((List.replicate 88 (0 : Int)).set 0 wd).set 1 (hdW 3 pf.size n)) 2 (ws pf)) 4 (ws (strOfNums (plc xs n)))) 36 ys n
  else pz (splice (((List.replicate 264 (0 : Int)).set 0 wd).set 1 (hdW 4 pf.size n)) 2 (ws pf)) xs ys n
def EncR (W : World) (N : Nat) (L : List Int) (e : Ending) (w' : World) : Prop := ∃ g, e = .returned (.slice (some ⟨g, 0, none⟩) N N) ∧ W.heap.size ≤ g ∧ WB w' g L ∧ Below W.heap.size W w'
theorem refs_range {ys : List Int} (h : Refs ys) : ∀ i, i < ys.length → 0 ≤ ys.getD i 0 ∧ ys.getD i 0 < 9223372036854775808 := fun i hi => by
  obtain ⟨s, g, l, e, h0, h1, h2, h3⟩ := h i hi
  rw [e]; unfold refV; split <;> omega
set_option maxRecDepth 100000 in
set_option maxHeartbeats 6400000 in
theorem enc1_any (wd : Int) (pf : ByteArray) (A : Option Addr) (c : Nat) (A' : Option Addr) (c' n : Nat) (xs ys : List Int) (w : World) (h : NodeL 1 wd pf xs ys n) (hb : Byt xs)
    (hx : Reads w w.heap.size 1 A n (xs.map (Value.int .u8))) (hy : Reads w w.heap.size 1 A' n (ys.map (Value.int .i64))) :
    Calls Try.prog 23 #[nodeV 1 wd pf A c A' c' n] w (EncR w 12 (encW 1 wd pf xs ys n)) := by
  obtain ⟨i0, hi0, hz0, hz1, hz2⟩ := info_parts info22
  obtain ⟨wb, hwb⟩ : ∃ wb, w.alloc (.cells #[.int .i64 1, .int .u64 wd, .string pf, .slice A n c, .slice A' n c'] 28) = wb := ⟨_, rfl⟩
  have HBW : Hid (Below w.heap.size w wb) := Lib.hid (by rw [← hwb]; exact (Below.refl _ _).alloc (Nat.le_refl _) _)
  have HBX : Hid (wb.heap[w.heap.size]? = some (.cells #[.int .i64 1, .int .u64 wd, .string pf, .slice A n c, .slice A' n c'] 28 (0, 0))) := Lib.hid (by rw [← hwb]; exact heap_alloc_new _ _)
  have HX : Hid (Reads wb w.heap.size 1 A n (xs.map (Value.int .u8))) := Lib.hid (hx.below HBW.out)
  have HY : Hid (Reads wb w.heap.size 1 A' n (ys.map (Value.int .i64))) := Lib.hid (hy.below HBW.out)
  have LX : Hid (xs.length = n) := Lib.hid (klen hx)
  have LY : Hid (ys.length = n) := Lib.hid (klen hy)
  have hn : n ≤ 4 := by have := h.high; simp [highV] at this; omega
  have hp : pf.size ≤ 12 := h.pref
  have HL := Lib.hid h
  have HW := Lib.hid hwb
  have HBY := Lib.hid hb
  have p0 := cell_of HBX.out 0
  have p1 := cell_of HBX.out 1
  have p2 := cell_of HBX.out 2
  have p3 := cell_of HBX.out 3
  have p4 := cell_of HBX.out 4
  have u1 : IntKind.u64.wrap (pf.size : Int) = (pf.size : Int) := IntWalk.u64_in _ (by omega)
  have u2 : IntKind.u64.wrap ((pf.size : Int) * 256) = 256 * (pf.size : Int) := by rw [IntWalk.u64_in _ (by omega)]; omega
  have u3 : IntKind.u64.wrap (n : Int) = (n : Int) := IntWalk.u64_in _ (by omega)
  have u4 : IntKind.u64.wrap ((n : Int) * 65536) = 65536 * (n : Int) := by rw [IntWalk.u64_in _ (by omega)]; omega
  clear h hb hx hy hwb
  unfold nodeV
  go_enter Try.func23, Try.ntmps23
  go_upto_region 3 with (first
    | (rw [HW.out]; go_at_call 21; refine (right_any 1 wd pf A c A' c' n xs ys wb HL.out (by omega) ((HX.out).more HBW.out.size) ((HY.out).more HBW.out.size)).mono ?_
       rintro e w1 ⟨rfl, hb1⟩
       have HB1 := Lib.hid (HBW.out.trans (hb1.mono HBW.out.size))
       have HX1 := Lib.hid (HX.out.below (hb1.mono HBW.out.size))
       have HY1 := Lib.hid (HY.out.below (hb1.mono HBW.out.size))
       have HBX1 : Hid (w1.heap[w.heap.size]? = some (.cells #[.int .i64 1, .int .u64 wd, .string pf, .slice A n c, .slice A' n c'] 28 (0, 0))) := Lib.hid ((heap_below hb1 (lt_of_heap HBX.out)).trans HBX.out)
       clear hb1)
    | fail)
  clear p0 p1 p2 p3 p4
  have k0 := cell_of HBX1.out 0
  have k1 := cell_of HBX1.out 1
  have k2 := cell_of HBX1.out 2
  have k3 := cell_of HBX1.out 3
  have HGL : Hid (w.heap.size < w1.heap.size) := Lib.hid (lt_of_heap HBX1.out)
  go_upto_region 4 with (first
    | (go_at_call 38; refine (size_any 1 (by omega) (by omega) _).mono ?_; rintro e w' ⟨rfl, hw'⟩; replace hw' := hw'.symm; subst hw'; rw [show ((sizeN 1 : Nat) : Int) = 12 from rfl])
    | (refine wpList_make_full _ rfl (.tmp 11) (.tmp 11) 48 rfl w1.heap.size 22 i0 (.int .u64 0) 1 Try.underlying48 hi0 hz0 hz1 .i64 .i64 _ _ 12 rfl rfl rfl rfl (by rw [hz2]; omega) (by unfold maxLen; omega) (Nat.le_refl _) ?_
       intro w2 hown hg2
       rw [zeros_u64] at hown
       have HWB2 := Lib.hid (own_wb hown)
       have hb2 : Below w1.heap.size w1 w2 := (Below.refl _ _).grown hg2 (Nat.le_refl _) (by simp)
       have HB2 := Lib.hid (HB1.out.trans (hb2.mono HB1.out.size))
       have HX2 := Lib.hid (HX1.out.below (hb2.mono HB1.out.size))
       have HY2 := Lib.hid (HY1.out.below (hb2.mono HB1.out.size))
       have HBX2 : Hid (w2.heap[w.heap.size]? = some (.cells #[.int .i64 1, .int .u64 wd, .string pf, .slice A n c, .slice A' n c'] 28 (0, 0))) := Lib.hid ((heap_below hb2 HGL.out).trans HBX1.out)
       clear hown hg2 hb2)
    | fail)
  obtain ⟨g, hg⟩ : ∃ g, g = w1.heap.size := ⟨_, rfl⟩
  rw [← hg] at HWB2 HGL ⊢
  clear hg k0 k1 k2 k3
  have k0 := cell_of HBX2.out 0
  have k1 := cell_of HBX2.out 1
  have k2 := cell_of HBX2.out 2
  have k3 := cell_of HBX2.out 3
  have hne : ¬ g = w.heap.size := by have := HGL.out; omega
  have hnf : ¬ w.heap.size = g := by have := HGL.out; omega
  have y0 : w2.cell? ⟨g, 0, none⟩ = some (.int .u64 0) := HWB2.out.cell 0 (by simp)
  have y1 : w2.cell? ⟨g, 1, none⟩ = some (.int .u64 0) := HWB2.out.cell 1 (by simp)
  have v0 : w2.frozen? ⟨g, 0, none⟩ = false := Blk.frozen HWB2.out 0
  have v1 : w2.frozen? ⟨g, 1, none⟩ = false := Blk.frozen HWB2.out 1
  go_upto_region 6 with (fail)
  obtain ⟨hd, hhd⟩ : ∃ hd, hd = hdW 1 pf.size n := ⟨_, rfl⟩
  have HHD := Lib.hid hhd
  obtain ⟨L1, hL1⟩ : ∃ L1, L1 = ((List.replicate 12 (0 : Int)).set 0 wd).set 1 hd := ⟨_, rfl⟩
  have HL1 := Lib.hid hL1
  have HLL1 : Hid (L1.length = 12) := Lib.hid (by rw [hL1]; simp)
  obtain ⟨w3, hw3⟩ : ∃ w3, (w2.setCell ⟨g, 0, none⟩ (.int .u64 wd)).setCell ⟨g, 1, none⟩ (.int .u64 (bits .or .u64 (bits .or .u64 1 (256 * (pf.size : Int))) (65536 * (n : Int)))) = w3 := ⟨_, rfl⟩
  have HWB3 : Hid (WB w3 g L1) := Lib.hid (by rw [← hw3, hL1, hhd]; exact (HWB2.out.set_ 0 wd).set_ 1 _)
  have HG1 : Hid (w.heap.size + 1 ≤ g) := Lib.hid HGL.out
  have HBB3 : Hid (Below (w.heap.size + 1) w2 w3) := Lib.hid (by rw [← hw3]; exact ((Below.refl _ _).setCell (p := ⟨g, 0, none⟩) HG1.out _).setCell (p := ⟨g, 1, none⟩) HG1.out _)
  rw [hw3]
  clear hw3 hL1 hhd y0 y1 v0 v1 k0 k1 k2 k3 hne hnf u1 u2 u3 u4
  obtain ⟨cp, hcx⟩ : ∃ cx, cx = cnt (pf).size := ⟨_, rfl⟩
  have HCcp := Lib.hid hcx
  have HScp : Hid ((pf).size ≤ 1000 ∧ cp ≤ 2) := Lib.hid (by rw [hcx]; unfold cnt; omega)
  have Q1 : Hid ((u64s (ws (pf))).length = Nat.min cp 2) := Lib.hid (by rw [u64s_len, ws_len, ← hcx]; exact (Nat.min_eq_left HScp.out.2).symm)
  have Q3 : Hid (2 + (u64s (ws (pf))).length ≤ (u64s L1).length) := Lib.hid (by rw [u64s_len, u64s_len, ws_len, ← hcx, HLL1.out]; have := HScp.out.2; omega)
  have C0 : Hid (0 < (u64s (ws (pf))).length → 0 < cp) := Lib.hid (by rw [u64s_len, ws_len, ← hcx]; exact id)
  have HBXw3 : Hid (w3.heap[w.heap.size]? = some (.cells #[.int .i64 1, .int .u64 wd, .string pf, .slice A n c, .slice A' n c'] 28 (0, 0))) := Lib.hid ((heap_below HBB3.out (Nat.lt_succ_self _)).trans HBX2.out)
  have b0 := cell_of HBXw3.out 2
  clear hcx
  go_region_held3 (fun w' => w'.cell? ⟨w.heap.size, 2, none⟩ = some (.string pf)) (first | (go_keep; done) | exact r1 | exact r2)
    (first
      | (go_at_call 39; refine (words_si (pf) cp HCcp.out.symm HScp.out.1 _).mono ?_
         rintro e w4 ⟨g4, rfl, hr4, hb4⟩
         have hb5 : Below (w.heap.size + 1) w2 w4 := HBB3.out.trans ⟨hb4.os, hb4.tape, hb4.output, hb4.size, fun k hk => hb4.block k (by have := lt_of_heap HBX2.out; have := HBB3.out.size; have := Blk.lt HWB3.out; have := HG1.out; show k < w3.heap.size; omega)⟩
         have r1 : w4.cell? ⟨w.heap.size, 2, none⟩ = some (.string pf) := cell_of ((heap_below hb5 (Nat.lt_succ_self _)).trans HBX2.out) 2
         have HWB4 : Hid (WB w4 g L1) := Lib.hid ((hb4.block g (Blk.lt HWB3.out)).trans HWB3.out)
         have HR4 := Lib.hid hr4
         have q2 : 0 < (u64s (ws (pf))).length → ∃ ad, some (⟨g4, 0, none⟩ : Addr) = some ad ∧ ∀ j v, (u64s (ws (pf)))[j]? = some v → w4.cell? (ad.add j) = some v := fun hp => reads_cells HR4.out (C0.out hp)
         have Q2 := Lib.hid q2
         have HBB4 := Lib.hid hb5
         clear q2 hr4 hb4 hb5)
      | (refine step_copy_splice rfl (.tmp 35) (.tmp 38) 48 48 rfl 22 Try.underlying48 size22 (some ⟨g, 2, none⟩) (some ⟨g4, 0, none⟩) 2 10 cp cp rfl rfl g 2 (u64s L1) 22 HWB4.out (u64s (ws (pf))) Q1.out (fun hp => ⟨rfl, Q2.out hp⟩) Q3.out (u64s_one _) (w.heap.size + 1) w4 (Below.refl _ _) HG1.out ?_
         intro w5 hw5 hb5
         rw [splice_u64] at hw5
         have HWBw5 : Hid (WB w5 g (splice L1 2 (ws (pf)))) := hw5
         have r2 : w5.cell? ⟨w.heap.size, 2, none⟩ = some (.string pf) := (hb5.cell (by simp)).trans r1
         have HBBw5 : Hid (Below (w.heap.size + 1) w2 w5) := Lib.hid (HBB4.out.trans hb5)
         clear hw5 hb5))
  obtain ⟨L2, hL2⟩ : ∃ L, L = splice L1 2 (ws (pf)) := ⟨_, rfl⟩
  rw [← hL2] at HWBw5
  have HLL2 := Lib.hid hL2
  have HLLL2 : Hid (L2.length = 12) := Lib.hid (by rw [hL2, splice_len (by have := Q3.out; rw [u64s_len, u64s_len] at this; exact this), HLL1.out])
  clear hL2 r1 r2 b0 Q1 Q2 Q3 C0 HWB4 HR4 HBB4 HBXw3
  have HBYw5 : Hid (w5.heap[w.heap.size]? = some (.cells #[.int .i64 1, .int .u64 wd, .string pf, .slice A n c, .slice A' n c'] 28 (0, 0))) := Lib.hid ((heap_below HBBw5.out (Nat.lt_succ_self _)).trans HBX2.out)
  have k0 := cell_of HBYw5.out 0
  go_wp2
  obtain ⟨cx, hcx⟩ : ∃ cx, cx = cnt (strOfNums xs).size := ⟨_, rfl⟩
  have HCcx := Lib.hid hcx
  have HScx : Hid ((strOfNums xs).size ≤ 1000 ∧ cx ≤ 1) := Lib.hid (by rw [hcx]; unfold cnt; rw [strOfNums_size, LX.out]; omega)
  have Q1 : Hid ((u64s (ws (strOfNums xs))).length = Nat.min cx 1) := Lib.hid (by rw [u64s_len, ws_len, ← hcx]; exact (Nat.min_eq_left HScx.out.2).symm)
  have Q3 : Hid (4 + (u64s (ws (strOfNums xs))).length ≤ (u64s L2).length) := Lib.hid (by rw [u64s_len, u64s_len, ws_len, ← hcx, HLLL2.out]; have := HScx.out.2; omega)
  have C0 : Hid (0 < (u64s (ws (strOfNums xs))).length → 0 < cx) := Lib.hid (by rw [u64s_len, ws_len, ← hcx]; exact id)
  have HBXw5 : Hid (w5.heap[w.heap.size]? = some (.cells #[.int .i64 1, .int .u64 wd, .string pf, .slice A n c, .slice A' n c'] 28 (0, 0))) := Lib.hid ((heap_below HBBw5.out (Nat.lt_succ_self _)).trans HBX2.out)
  have b0 := cell_of HBXw5.out 3
  clear hcx
  have hconv : (convert 23 9 (.slice A n c)).run Try.prog w5.drew = .ok (.string (strOfNums xs)) w5.drew := conv_row ((HX2.out.below (HBBw5.out.mono (Nat.le_succ _))).drew)
  go_region_held3 (fun w' => w'.cell? ⟨w.heap.size, 3, none⟩ = some (.slice A n c) ∧ (convert 23 9 (.slice A n c)).run Try.prog w' = .ok (.string (strOfNums xs)) w') (first | exact ⟨b0, hconv⟩ | exact ⟨r1, r3⟩ | exact ⟨r2, r4⟩)
    (first
      | (go_at_call 39; refine (words_si (strOfNums xs) cx HCcx.out.symm HScx.out.1 _).mono ?_
         rintro e w4 ⟨g4, rfl, hr4, hb4⟩
         have hb5 : Below (w.heap.size + 1) w2 w4 := HBBw5.out.trans ⟨hb4.os, hb4.tape, hb4.output, hb4.size, fun k hk => hb4.block k (by have := lt_of_heap HBX2.out; have := HBBw5.out.size; have := Blk.lt HWBw5.out; have := HG1.out; show k < w5.heap.size; omega)⟩
         have r1 : w4.cell? ⟨w.heap.size, 3, none⟩ = some (.slice A n c) := cell_of ((heap_below hb5 (Nat.lt_succ_self _)).trans HBX2.out) 3
         have r3 : (convert 23 9 (.slice A n c)).run Try.prog w4 = .ok (.string (strOfNums xs)) w4 := conv_row (HX2.out.below (hb5.mono (Nat.le_succ _)))
         have HWB4 : Hid (WB w4 g L2) := Lib.hid ((hb4.block g (Blk.lt HWBw5.out)).trans HWBw5.out)
         have HR4 := Lib.hid hr4
         have q2 : 0 < (u64s (ws (strOfNums xs))).length → ∃ ad, some (⟨g4, 0, none⟩ : Addr) = some ad ∧ ∀ j v, (u64s (ws (strOfNums xs)))[j]? = some v → w4.cell? (ad.add j) = some v := fun hp => reads_cells HR4.out (C0.out hp)
         have Q2 := Lib.hid q2
         have HBB4 := Lib.hid hb5
         clear q2 hr4 hb4 hb5)
      | (refine step_copy_splice rfl (.tmp 45) (.tmp 49) 48 48 rfl 22 Try.underlying48 size22 (some ⟨g, 4, none⟩) (some ⟨g4, 0, none⟩) 1 8 cx cx rfl rfl g 4 (u64s L2) 22 HWB4.out (u64s (ws (strOfNums xs))) Q1.out (fun hp => ⟨rfl, Q2.out hp⟩) Q3.out (u64s_one _) (w.heap.size + 1) w4 (Below.refl _ _) HG1.out ?_
         intro w6 hw5 hb5
         rw [splice_u64] at hw5
         have HWBw6 : Hid (WB w6 g (splice L2 4 (ws (strOfNums xs)))) := hw5
         have r2 : w6.cell? ⟨w.heap.size, 3, none⟩ = some (.slice A n c) := (hb5.cell (by simp)).trans r1
         have HBBw6 : Hid (Below (w.heap.size + 1) w2 w6) := Lib.hid (HBB4.out.trans hb5)
         have r4 : (convert 23 9 (.slice A n c)).run Try.prog w6 = .ok (.string (strOfNums xs)) w6 := conv_row (HX2.out.below (HBBw6.out.mono (Nat.le_succ _)))
         clear hw5 hb5))
  obtain ⟨L3, hL3⟩ : ∃ L, L = splice L2 4 (ws (strOfNums xs)) := ⟨_, rfl⟩
  rw [← hL3] at HWBw6
  have HLL3 := Lib.hid hL3
  have HLLL3 : Hid (L3.length = 12) := Lib.hid (by rw [hL3, splice_len (by have := Q3.out; rw [u64s_len, u64s_len] at this; exact this), HLLL2.out])
  clear hL3 r1 r2 r3 r4 hconv b0 Q1 Q2 Q3 C0 HWB4 HR4 HBB4 HBXw5
  have HBYw6 : Hid (w6.heap[w.heap.size]? = some (.cells #[.int .i64 1, .int .u64 wd, .string pf, .slice A n c, .slice A' n c'] 28 (0, 0))) := Lib.hid ((heap_below HBBw6.out (Nat.lt_succ_self _)).trans HBX2.out)
  go_wp2
  have b0 := cell_of HBYw6.out 4
  go_region_held3 (fun w' => w'.cell? ⟨w.heap.size, 4, none⟩ = some (.slice A' n c')) (first | (go_keep; done) | exact r1)
    (first
      | (go_at_call 40; refine (putKids_any g 5 (12 - 5) (12 - 5) A' c' n L3 ys (w.heap.size + 1) w6.drew HWBw6.out HG1.out (((HY2.out.below (HBBw6.out.mono (Nat.le_succ _))).drew).more (Nat.le_succ _)) (fun i hi => refs_range HL.out.refs i (by rw [LY.out]; exact hi)) (by omega) (by rw [HLLL3.out]; omega) (by rw [HLLL3.out]; omega)).mono ?_
         rintro e w7 ⟨rfl, hwb7, hb7⟩
         have hb8 : Below (w.heap.size + 1) w2 w7 := HBBw6.out.trans ⟨hb7.os, hb7.tape, hb7.output, hb7.size, hb7.block⟩
         have r1 : w7.cell? ⟨w.heap.size, 4, none⟩ = some (.slice A' n c') := cell_of ((heap_below hb8 (Nat.lt_succ_self _)).trans HBX2.out) 4
         have HWB7 := Lib.hid hwb7
         have HBB7 := Lib.hid hb8
         clear hwb7 hb7 hb8))
  go_wp2
  go_ret
  exact ⟨g, rfl, by have := HG1.out; omega, by have h := HWB7.out; rw [HLL3.out, HLL2.out, HL1.out, HHD.out] at h; exact h, HB2.out.trans (HBB7.out.mono (Nat.le_succ _))⟩
set_option maxRecDepth 100000 in
set_option maxHeartbeats 6400000 in
theorem enc2_any (wd : Int) (pf : ByteArray) (A : Option Addr) (c : Nat) (A' : Option Addr) (c' n : Nat) (xs ys : List Int) (w : World) (h : NodeL 2 wd pf xs ys n) (hb : Byt xs)
    (hx : Reads w w.heap.size 1 A n (xs.map (Value.int .u8))) (hy : Reads w w.heap.size 1 A' n (ys.map (Value.int .i64))) :
    Calls Try.prog 23 #[nodeV 2 wd pf A c A' c' n] w (EncR w 24 (encW 2 wd pf xs ys n)) := by
  obtain ⟨i0, hi0, hz0, hz1, hz2⟩ := info_parts info22
  obtain ⟨wb, hwb⟩ : ∃ wb, w.alloc (.cells #[.int .i64 2, .int .u64 wd, .string pf, .slice A n c, .slice A' n c'] 28) = wb := ⟨_, rfl⟩
  have HBW : Hid (Below w.heap.size w wb) := Lib.hid (by rw [← hwb]; exact (Below.refl _ _).alloc (Nat.le_refl _) _)
  have HBX : Hid (wb.heap[w.heap.size]? = some (.cells #[.int .i64 2, .int .u64 wd, .string pf, .slice A n c, .slice A' n c'] 28 (0, 0))) := Lib.hid (by rw [← hwb]; exact heap_alloc_new _ _)
  have HX : Hid (Reads wb w.heap.size 1 A n (xs.map (Value.int .u8))) := Lib.hid (hx.below HBW.out)
  have HY : Hid (Reads wb w.heap.size 1 A' n (ys.map (Value.int .i64))) := Lib.hid (hy.below HBW.out)
  have LX : Hid (xs.length = n) := Lib.hid (klen hx)
  have LY : Hid (ys.length = n) := Lib.hid (klen hy)
  have hn : n ≤ 16 := by have := h.high; simp [highV] at this; omega
  have hp : pf.size ≤ 12 := h.pref
  have HL := Lib.hid h
  have HW := Lib.hid hwb
  have HBY := Lib.hid hb
  have p0 := cell_of HBX.out 0
  have p1 := cell_of HBX.out 1
  have p2 := cell_of HBX.out 2
  have p3 := cell_of HBX.out 3
  have p4 := cell_of HBX.out 4
  have u1 : IntKind.u64.wrap (pf.size : Int) = (pf.size : Int) := IntWalk.u64_in _ (by omega)
  have u2 : IntKind.u64.wrap ((pf.size : Int) * 256) = 256 * (pf.size : Int) := by rw [IntWalk.u64_in _ (by omega)]; omega
  have u3 : IntKind.u64.wrap (n : Int) = (n : Int) := IntWalk.u64_in _ (by omega)
  have u4 : IntKind.u64.wrap ((n : Int) * 65536) = 65536 * (n : Int) := by rw [IntWalk.u64_in _ (by omega)]; omega
  clear h hb hx hy hwb
  unfold nodeV
  go_enter Try.func23, Try.ntmps23
  go_upto_region 3 with (first
    | (rw [HW.out]; go_at_call 21; refine (right_any 2 wd pf A c A' c' n xs ys wb HL.out (by omega) ((HX.out).more HBW.out.size) ((HY.out).more HBW.out.size)).mono ?_
       rintro e w1 ⟨rfl, hb1⟩
       have HB1 := Lib.hid (HBW.out.trans (hb1.mono HBW.out.size))
       have HX1 := Lib.hid (HX.out.below (hb1.mono HBW.out.size))
       have HY1 := Lib.hid (HY.out.below (hb1.mono HBW.out.size))
       have HBX1 : Hid (w1.heap[w.heap.size]? = some (.cells #[.int .i64 2, .int .u64 wd, .string pf, .slice A n c, .slice A' n c'] 28 (0, 0))) := Lib.hid ((heap_below hb1 (lt_of_heap HBX.out)).trans HBX.out)
       clear hb1)
    | fail)
  clear p0 p1 p2 p3 p4
  have k0 := cell_of HBX1.out 0
  have k1 := cell_of HBX1.out 1
  have k2 := cell_of HBX1.out 2
  have k3 := cell_of HBX1.out 3
  have HGL : Hid (w.heap.size < w1.heap.size) := Lib.hid (lt_of_heap HBX1.out)
  go_upto_region 4 with (first
    | (go_at_call 38; refine (size_any 2 (by omega) (by omega) _).mono ?_; rintro e w' ⟨rfl, hw'⟩; replace hw' := hw'.symm; subst hw'; rw [show ((sizeN 2 : Nat) : Int) = 24 from rfl])
    | (refine wpList_make_full _ rfl (.tmp 11) (.tmp 11) 48 rfl w1.heap.size 22 i0 (.int .u64 0) 1 Try.underlying48 hi0 hz0 hz1 .i64 .i64 _ _ 24 rfl rfl rfl rfl (by rw [hz2]; omega) (by unfold maxLen; omega) (Nat.le_refl _) ?_
       intro w2 hown hg2
       rw [zeros_u64] at hown
       have HWB2 := Lib.hid (own_wb hown)
       have hb2 : Below w1.heap.size w1 w2 := (Below.refl _ _).grown hg2 (Nat.le_refl _) (by simp)
       have HB2 := Lib.hid (HB1.out.trans (hb2.mono HB1.out.size))
       have HX2 := Lib.hid (HX1.out.below (hb2.mono HB1.out.size))
       have HY2 := Lib.hid (HY1.out.below (hb2.mono HB1.out.size))
       have HBX2 : Hid (w2.heap[w.heap.size]? = some (.cells #[.int .i64 2, .int .u64 wd, .string pf, .slice A n c, .slice A' n c'] 28 (0, 0))) := Lib.hid ((heap_below hb2 HGL.out).trans HBX1.out)
       clear hown hg2 hb2)
    | fail)
  obtain ⟨g, hg⟩ : ∃ g, g = w1.heap.size := ⟨_, rfl⟩
  rw [← hg] at HWB2 HGL ⊢
  clear hg k0 k1 k2 k3
  have k0 := cell_of HBX2.out 0
  have k1 := cell_of HBX2.out 1
  have k2 := cell_of HBX2.out 2
  have k3 := cell_of HBX2.out 3
  have hne : ¬ g = w.heap.size := by have := HGL.out; omega
  have hnf : ¬ w.heap.size = g := by have := HGL.out; omega
  have y0 : w2.cell? ⟨g, 0, none⟩ = some (.int .u64 0) := HWB2.out.cell 0 (by simp)
  have y1 : w2.cell? ⟨g, 1, none⟩ = some (.int .u64 0) := HWB2.out.cell 1 (by simp)
  have v0 : w2.frozen? ⟨g, 0, none⟩ = false := Blk.frozen HWB2.out 0
  have v1 : w2.frozen? ⟨g, 1, none⟩ = false := Blk.frozen HWB2.out 1
  go_upto_region 6 with (fail)
  obtain ⟨hd, hhd⟩ : ∃ hd, hd = hdW 2 pf.size n := ⟨_, rfl⟩
  have HHD := Lib.hid hhd
  obtain ⟨L1, hL1⟩ : ∃ L1, L1 = ((List.replicate 24 (0 : Int)).set 0 wd).set 1 hd := ⟨_, rfl⟩
  have HL1 := Lib.hid hL1
  have HLL1 : Hid (L1.length = 24) := Lib.hid (by rw [hL1]; simp)
  obtain ⟨w3, hw3⟩ : ∃ w3, (w2.setCell ⟨g, 0, none⟩ (.int .u64 wd)).setCell ⟨g, 1, none⟩ (.int .u64 (bits .or .u64 (bits .or .u64 2 (256 * (pf.size : Int))) (65536 * (n : Int)))) = w3 := ⟨_, rfl⟩
  have HWB3 : Hid (WB w3 g L1) := Lib.hid (by rw [← hw3, hL1, hhd]; exact (HWB2.out.set_ 0 wd).set_ 1 _)
  have HG1 : Hid (w.heap.size + 1 ≤ g) := Lib.hid HGL.out
  have HBB3 : Hid (Below (w.heap.size + 1) w2 w3) := Lib.hid (by rw [← hw3]; exact ((Below.refl _ _).setCell (p := ⟨g, 0, none⟩) HG1.out _).setCell (p := ⟨g, 1, none⟩) HG1.out _)
  rw [hw3]
  clear hw3 hL1 hhd y0 y1 v0 v1 k0 k1 k2 k3 hne hnf u1 u2 u3 u4
  obtain ⟨cp, hcx⟩ : ∃ cx, cx = cnt (pf).size := ⟨_, rfl⟩
  have HCcp := Lib.hid hcx
  have HScp : Hid ((pf).size ≤ 1000 ∧ cp ≤ 2) := Lib.hid (by rw [hcx]; unfold cnt; omega)
  have Q1 : Hid ((u64s (ws (pf))).length = Nat.min cp 2) := Lib.hid (by rw [u64s_len, ws_len, ← hcx]; exact (Nat.min_eq_left HScp.out.2).symm)
  have Q3 : Hid (2 + (u64s (ws (pf))).length ≤ (u64s L1).length) := Lib.hid (by rw [u64s_len, u64s_len, ws_len, ← hcx, HLL1.out]; have := HScp.out.2; omega)
  have C0 : Hid (0 < (u64s (ws (pf))).length → 0 < cp) := Lib.hid (by rw [u64s_len, ws_len, ← hcx]; exact id)
  have HBXw3 : Hid (w3.heap[w.heap.size]? = some (.cells #[.int .i64 2, .int .u64 wd, .string pf, .slice A n c, .slice A' n c'] 28 (0, 0))) := Lib.hid ((heap_below HBB3.out (Nat.lt_succ_self _)).trans HBX2.out)
  have b0 := cell_of HBXw3.out 2
  clear hcx
  go_region_held3 (fun w' => w'.cell? ⟨w.heap.size, 2, none⟩ = some (.string pf)) (first | (go_keep; done) | exact r1 | exact r2)
    (first
      | (go_at_call 39; refine (words_si (pf) cp HCcp.out.symm HScp.out.1 _).mono ?_
         rintro e w4 ⟨g4, rfl, hr4, hb4⟩
         have hb5 : Below (w.heap.size + 1) w2 w4 := HBB3.out.trans ⟨hb4.os, hb4.tape, hb4.output, hb4.size, fun k hk => hb4.block k (by have := lt_of_heap HBX2.out; have := HBB3.out.size; have := Blk.lt HWB3.out; have := HG1.out; show k < w3.heap.size; omega)⟩
         have r1 : w4.cell? ⟨w.heap.size, 2, none⟩ = some (.string pf) := cell_of ((heap_below hb5 (Nat.lt_succ_self _)).trans HBX2.out) 2
         have HWB4 : Hid (WB w4 g L1) := Lib.hid ((hb4.block g (Blk.lt HWB3.out)).trans HWB3.out)
         have HR4 := Lib.hid hr4
         have q2 : 0 < (u64s (ws (pf))).length → ∃ ad, some (⟨g4, 0, none⟩ : Addr) = some ad ∧ ∀ j v, (u64s (ws (pf)))[j]? = some v → w4.cell? (ad.add j) = some v := fun hp => reads_cells HR4.out (C0.out hp)
         have Q2 := Lib.hid q2
         have HBB4 := Lib.hid hb5
         clear q2 hr4 hb4 hb5)
      | (refine step_copy_splice rfl (.tmp 35) (.tmp 38) 48 48 rfl 22 Try.underlying48 size22 (some ⟨g, 2, none⟩) (some ⟨g4, 0, none⟩) 2 22 cp cp rfl rfl g 2 (u64s L1) 22 HWB4.out (u64s (ws (pf))) Q1.out (fun hp => ⟨rfl, Q2.out hp⟩) Q3.out (u64s_one _) (w.heap.size + 1) w4 (Below.refl _ _) HG1.out ?_
         intro w5 hw5 hb5
         rw [splice_u64] at hw5
         have HWBw5 : Hid (WB w5 g (splice L1 2 (ws (pf)))) := hw5
         have r2 : w5.cell? ⟨w.heap.size, 2, none⟩ = some (.string pf) := (hb5.cell (by simp)).trans r1
         have HBBw5 : Hid (Below (w.heap.size + 1) w2 w5) := Lib.hid (HBB4.out.trans hb5)
         clear hw5 hb5))
  obtain ⟨L2, hL2⟩ : ∃ L, L = splice L1 2 (ws (pf)) := ⟨_, rfl⟩
  rw [← hL2] at HWBw5
  have HLL2 := Lib.hid hL2
  have HLLL2 : Hid (L2.length = 24) := Lib.hid (by rw [hL2, splice_len (by have := Q3.out; rw [u64s_len, u64s_len] at this; exact this), HLL1.out])
  clear hL2 r1 r2 b0 Q1 Q2 Q3 C0 HWB4 HR4 HBB4 HBXw3
  have HBYw5 : Hid (w5.heap[w.heap.size]? = some (.cells #[.int .i64 2, .int .u64 wd, .string pf, .slice A n c, .slice A' n c'] 28 (0, 0))) := Lib.hid ((heap_below HBBw5.out (Nat.lt_succ_self _)).trans HBX2.out)
  have k0 := cell_of HBYw5.out 0
  go_wp2
  obtain ⟨cx, hcx⟩ : ∃ cx, cx = cnt (strOfNums xs).size := ⟨_, rfl⟩
  have HCcx := Lib.hid hcx
  have HScx : Hid ((strOfNums xs).size ≤ 1000 ∧ cx ≤ 2) := Lib.hid (by rw [hcx]; unfold cnt; rw [strOfNums_size, LX.out]; omega)
  have Q1 : Hid ((u64s (ws (strOfNums xs))).length = Nat.min cx 2) := Lib.hid (by rw [u64s_len, ws_len, ← hcx]; exact (Nat.min_eq_left HScx.out.2).symm)
  have Q3 : Hid (4 + (u64s (ws (strOfNums xs))).length ≤ (u64s L2).length) := Lib.hid (by rw [u64s_len, u64s_len, ws_len, ← hcx, HLLL2.out]; have := HScx.out.2; omega)
  have C0 : Hid (0 < (u64s (ws (strOfNums xs))).length → 0 < cx) := Lib.hid (by rw [u64s_len, ws_len, ← hcx]; exact id)
  have HBXw5 : Hid (w5.heap[w.heap.size]? = some (.cells #[.int .i64 2, .int .u64 wd, .string pf, .slice A n c, .slice A' n c'] 28 (0, 0))) := Lib.hid ((heap_below HBBw5.out (Nat.lt_succ_self _)).trans HBX2.out)
  have b0 := cell_of HBXw5.out 3
  clear hcx
  have hconv : (convert 23 9 (.slice A n c)).run Try.prog w5.drew = .ok (.string (strOfNums xs)) w5.drew := conv_row ((HX2.out.below (HBBw5.out.mono (Nat.le_succ _))).drew)
  go_region_held3 (fun w' => w'.cell? ⟨w.heap.size, 3, none⟩ = some (.slice A n c) ∧ (convert 23 9 (.slice A n c)).run Try.prog w' = .ok (.string (strOfNums xs)) w') (first | exact ⟨b0, hconv⟩ | exact ⟨r1, r3⟩ | exact ⟨r2, r4⟩)
    (first
      | (go_at_call 39; refine (words_si (strOfNums xs) cx HCcx.out.symm HScx.out.1 _).mono ?_
         rintro e w4 ⟨g4, rfl, hr4, hb4⟩
         have hb5 : Below (w.heap.size + 1) w2 w4 := HBBw5.out.trans ⟨hb4.os, hb4.tape, hb4.output, hb4.size, fun k hk => hb4.block k (by have := lt_of_heap HBX2.out; have := HBBw5.out.size; have := Blk.lt HWBw5.out; have := HG1.out; show k < w5.heap.size; omega)⟩
         have r1 : w4.cell? ⟨w.heap.size, 3, none⟩ = some (.slice A n c) := cell_of ((heap_below hb5 (Nat.lt_succ_self _)).trans HBX2.out) 3
         have r3 : (convert 23 9 (.slice A n c)).run Try.prog w4 = .ok (.string (strOfNums xs)) w4 := conv_row (HX2.out.below (hb5.mono (Nat.le_succ _)))
         have HWB4 : Hid (WB w4 g L2) := Lib.hid ((hb4.block g (Blk.lt HWBw5.out)).trans HWBw5.out)
         have HR4 := Lib.hid hr4
         have q2 : 0 < (u64s (ws (strOfNums xs))).length → ∃ ad, some (⟨g4, 0, none⟩ : Addr) = some ad ∧ ∀ j v, (u64s (ws (strOfNums xs)))[j]? = some v → w4.cell? (ad.add j) = some v := fun hp => reads_cells HR4.out (C0.out hp)
         have Q2 := Lib.hid q2
         have HBB4 := Lib.hid hb5
         clear q2 hr4 hb4 hb5)
      | (refine step_copy_splice rfl (.tmp 59) (.tmp 63) 48 48 rfl 22 Try.underlying48 size22 (some ⟨g, 4, none⟩) (some ⟨g4, 0, none⟩) 2 20 cx cx rfl rfl g 4 (u64s L2) 22 HWB4.out (u64s (ws (strOfNums xs))) Q1.out (fun hp => ⟨rfl, Q2.out hp⟩) Q3.out (u64s_one _) (w.heap.size + 1) w4 (Below.refl _ _) HG1.out ?_
         intro w6 hw5 hb5
         rw [splice_u64] at hw5
         have HWBw6 : Hid (WB w6 g (splice L2 4 (ws (strOfNums xs)))) := hw5
         have r2 : w6.cell? ⟨w.heap.size, 3, none⟩ = some (.slice A n c) := (hb5.cell (by simp)).trans r1
         have HBBw6 : Hid (Below (w.heap.size + 1) w2 w6) := Lib.hid (HBB4.out.trans hb5)
         have r4 : (convert 23 9 (.slice A n c)).run Try.prog w6 = .ok (.string (strOfNums xs)) w6 := conv_row (HX2.out.below (HBBw6.out.mono (Nat.le_succ _)))
         clear hw5 hb5))
  obtain ⟨L3, hL3⟩ : ∃ L, L = splice L2 4 (ws (strOfNums xs)) := ⟨_, rfl⟩
  rw [← hL3] at HWBw6
  have HLL3 := Lib.hid hL3
  have HLLL3 : Hid (L3.length = 24) := Lib.hid (by rw [hL3, splice_len (by have := Q3.out; rw [u64s_len, u64s_len] at this; exact this), HLLL2.out])
  clear hL3 r1 r2 r3 r4 hconv b0 Q1 Q2 Q3 C0 HWB4 HR4 HBB4 HBXw5
  have HBYw6 : Hid (w6.heap[w.heap.size]? = some (.cells #[.int .i64 2, .int .u64 wd, .string pf, .slice A n c, .slice A' n c'] 28 (0, 0))) := Lib.hid ((heap_below HBBw6.out (Nat.lt_succ_self _)).trans HBX2.out)
  go_wp2
  have b0 := cell_of HBYw6.out 4
  go_region_held3 (fun w' => w'.cell? ⟨w.heap.size, 4, none⟩ = some (.slice A' n c')) (first | (go_keep; done) | exact r1)
    (first
      | (go_at_call 40; refine (putKids_any g 6 (24 - 6) (24 - 6) A' c' n L3 ys (w.heap.size + 1) w6.drew HWBw6.out HG1.out (((HY2.out.below (HBBw6.out.mono (Nat.le_succ _))).drew).more (Nat.le_succ _)) (fun i hi => refs_range HL.out.refs i (by rw [LY.out]; exact hi)) (by omega) (by rw [HLLL3.out]; omega) (by rw [HLLL3.out]; omega)).mono ?_
         rintro e w7 ⟨rfl, hwb7, hb7⟩
         have hb8 : Below (w.heap.size + 1) w2 w7 := HBBw6.out.trans ⟨hb7.os, hb7.tape, hb7.output, hb7.size, hb7.block⟩
         have r1 : w7.cell? ⟨w.heap.size, 4, none⟩ = some (.slice A' n c') := cell_of ((heap_below hb8 (Nat.lt_succ_self _)).trans HBX2.out) 4
         have HWB7 := Lib.hid hwb7
         have HBB7 := Lib.hid hb8
         clear hwb7 hb7 hb8))
  go_wp2
  go_ret
  exact ⟨g, rfl, by have := HG1.out; omega, by have h := HWB7.out; rw [HLL3.out, HLL2.out, HL1.out, HHD.out] at h; exact h, HB2.out.trans (HBB7.out.mono (Nat.le_succ _))⟩
set_option maxRecDepth 100000 in
set_option maxHeartbeats 6400000 in
theorem enc3_any (wd : Int) (pf : ByteArray) (A : Option Addr) (c : Nat) (A' : Option Addr) (c' n : Nat) (xs ys : List Int) (w : World) (h : NodeL 3 wd pf xs ys n) (hb : Byt xs)
    (hx : Reads w w.heap.size 1 A n (xs.map (Value.int .u8))) (hy : Reads w w.heap.size 1 A' n (ys.map (Value.int .i64))) :
    Calls Try.prog 23 #[nodeV 3 wd pf A c A' c' n] w (EncR w 88 (encW 3 wd pf xs ys n)) := by
  obtain ⟨i0, hi0, hz0, hz1, hz2⟩ := info_parts info22
  obtain ⟨wb, hwb⟩ : ∃ wb, w.alloc (.cells #[.int .i64 3, .int .u64 wd, .string pf, .slice A n c, .slice A' n c'] 28) = wb := ⟨_, rfl⟩
  have HBW : Hid (Below w.heap.size w wb) := Lib.hid (by rw [← hwb]; exact (Below.refl _ _).alloc (Nat.le_refl _) _)
  have HBX : Hid (wb.heap[w.heap.size]? = some (.cells #[.int .i64 3, .int .u64 wd, .string pf, .slice A n c, .slice A' n c'] 28 (0, 0))) := Lib.hid (by rw [← hwb]; exact heap_alloc_new _ _)
  have HX : Hid (Reads wb w.heap.size 1 A n (xs.map (Value.int .u8))) := Lib.hid (hx.below HBW.out)
  have HY : Hid (Reads wb w.heap.size 1 A' n (ys.map (Value.int .i64))) := Lib.hid (hy.below HBW.out)
  have LX : Hid (xs.length = n) := Lib.hid (klen hx)
  have LY : Hid (ys.length = n) := Lib.hid (klen hy)
  have hn : n ≤ 48 := by have := h.high; simp [highV] at this; omega
  have hp : pf.size ≤ 12 := h.pref
  have HL := Lib.hid h
  have HW := Lib.hid hwb
  have HBY := Lib.hid hb
  have p0 := cell_of HBX.out 0
  have p1 := cell_of HBX.out 1
  have p2 := cell_of HBX.out 2
  have p3 := cell_of HBX.out 3
  have p4 := cell_of HBX.out 4
  have u1 : IntKind.u64.wrap (pf.size : Int) = (pf.size : Int) := IntWalk.u64_in _ (by omega)
  have u2 : IntKind.u64.wrap ((pf.size : Int) * 256) = 256 * (pf.size : Int) := by rw [IntWalk.u64_in _ (by omega)]; omega
  have u3 : IntKind.u64.wrap (n : Int) = (n : Int) := IntWalk.u64_in _ (by omega)
  have u4 : IntKind.u64.wrap ((n : Int) * 65536) = 65536 * (n : Int) := by rw [IntWalk.u64_in _ (by omega)]; omega
  clear h hb hx hy hwb
  unfold nodeV
  go_enter Try.func23, Try.ntmps23
  go_upto_region 3 with (first
    | (rw [HW.out]; go_at_call 21; refine (right_any 3 wd pf A c A' c' n xs ys wb HL.out (by omega) ((HX.out).more HBW.out.size) ((HY.out).more HBW.out.size)).mono ?_
       rintro e w1 ⟨rfl, hb1⟩
       have HB1 := Lib.hid (HBW.out.trans (hb1.mono HBW.out.size))
       have HX1 := Lib.hid (HX.out.below (hb1.mono HBW.out.size))
       have HY1 := Lib.hid (HY.out.below (hb1.mono HBW.out.size))
       have HBX1 : Hid (w1.heap[w.heap.size]? = some (.cells #[.int .i64 3, .int .u64 wd, .string pf, .slice A n c, .slice A' n c'] 28 (0, 0))) := Lib.hid ((heap_below hb1 (lt_of_heap HBX.out)).trans HBX.out)
       clear hb1)
    | fail)
  clear p0 p1 p2 p3 p4
  have k0 := cell_of HBX1.out 0
  have k1 := cell_of HBX1.out 1
  have k2 := cell_of HBX1.out 2
  have k3 := cell_of HBX1.out 3
  have HGL : Hid (w.heap.size < w1.heap.size) := Lib.hid (lt_of_heap HBX1.out)
  go_upto_region 4 with (first
    | (go_at_call 38; refine (size_any 3 (by omega) (by omega) _).mono ?_; rintro e w' ⟨rfl, hw'⟩; replace hw' := hw'.symm; subst hw'; rw [show ((sizeN 3 : Nat) : Int) = 88 from rfl])
    | (refine wpList_make_full _ rfl (.tmp 11) (.tmp 11) 48 rfl w1.heap.size 22 i0 (.int .u64 0) 1 Try.underlying48 hi0 hz0 hz1 .i64 .i64 _ _ 88 rfl rfl rfl rfl (by rw [hz2]; omega) (by unfold maxLen; omega) (Nat.le_refl _) ?_
       intro w2 hown hg2
       rw [zeros_u64] at hown
       have HWB2 := Lib.hid (own_wb hown)
       have hb2 : Below w1.heap.size w1 w2 := (Below.refl _ _).grown hg2 (Nat.le_refl _) (by simp)
       have HB2 := Lib.hid (HB1.out.trans (hb2.mono HB1.out.size))
       have HX2 := Lib.hid (HX1.out.below (hb2.mono HB1.out.size))
       have HY2 := Lib.hid (HY1.out.below (hb2.mono HB1.out.size))
       have HBX2 : Hid (w2.heap[w.heap.size]? = some (.cells #[.int .i64 3, .int .u64 wd, .string pf, .slice A n c, .slice A' n c'] 28 (0, 0))) := Lib.hid ((heap_below hb2 HGL.out).trans HBX1.out)
       clear hown hg2 hb2)
    | fail)
  obtain ⟨g, hg⟩ : ∃ g, g = w1.heap.size := ⟨_, rfl⟩
  rw [← hg] at HWB2 HGL ⊢
  clear hg k0 k1 k2 k3
  have k0 := cell_of HBX2.out 0
  have k1 := cell_of HBX2.out 1
  have k2 := cell_of HBX2.out 2
  have k3 := cell_of HBX2.out 3
  have hne : ¬ g = w.heap.size := by have := HGL.out; omega
  have hnf : ¬ w.heap.size = g := by have := HGL.out; omega
  have y0 : w2.cell? ⟨g, 0, none⟩ = some (.int .u64 0) := HWB2.out.cell 0 (by simp)
  have y1 : w2.cell? ⟨g, 1, none⟩ = some (.int .u64 0) := HWB2.out.cell 1 (by simp)
  have v0 : w2.frozen? ⟨g, 0, none⟩ = false := Blk.frozen HWB2.out 0
  have v1 : w2.frozen? ⟨g, 1, none⟩ = false := Blk.frozen HWB2.out 1
  go_upto_region 6 with (fail)
  obtain ⟨hd, hhd⟩ : ∃ hd, hd = hdW 3 pf.size n := ⟨_, rfl⟩
  have HHD := Lib.hid hhd
  obtain ⟨L1, hL1⟩ : ∃ L1, L1 = ((List.replicate 88 (0 : Int)).set 0 wd).set 1 hd := ⟨_, rfl⟩
  have HL1 := Lib.hid hL1
  have HLL1 : Hid (L1.length = 88) := Lib.hid (by rw [hL1]; simp)
  obtain ⟨w3, hw3⟩ : ∃ w3, (w2.setCell ⟨g, 0, none⟩ (.int .u64 wd)).setCell ⟨g, 1, none⟩ (.int .u64 (bits .or .u64 (bits .or .u64 3 (256 * (pf.size : Int))) (65536 * (n : Int)))) = w3 := ⟨_, rfl⟩
  have HWB3 : Hid (WB w3 g L1) := Lib.hid (by rw [← hw3, hL1, hhd]; exact (HWB2.out.set_ 0 wd).set_ 1 _)
  have HG1 : Hid (w.heap.size + 1 ≤ g) := Lib.hid HGL.out
  have HBB3 : Hid (Below (w.heap.size + 1) w2 w3) := Lib.hid (by rw [← hw3]; exact ((Below.refl _ _).setCell (p := ⟨g, 0, none⟩) HG1.out _).setCell (p := ⟨g, 1, none⟩) HG1.out _)
  rw [hw3]
  clear hw3 hL1 hhd y0 y1 v0 v1 k0 k1 k2 k3 hne hnf u1 u2 u3 u4
  obtain ⟨cp, hcx⟩ : ∃ cx, cx = cnt (pf).size := ⟨_, rfl⟩
  have HCcp := Lib.hid hcx
  have HScp : Hid ((pf).size ≤ 1000 ∧ cp ≤ 2) := Lib.hid (by rw [hcx]; unfold cnt; omega)
  have Q1 : Hid ((u64s (ws (pf))).length = Nat.min cp 2) := Lib.hid (by rw [u64s_len, ws_len, ← hcx]; exact (Nat.min_eq_left HScp.out.2).symm)
  have Q3 : Hid (2 + (u64s (ws (pf))).length ≤ (u64s L1).length) := Lib.hid (by rw [u64s_len, u64s_len, ws_len, ← hcx, HLL1.out]; have := HScp.out.2; omega)
  have C0 : Hid (0 < (u64s (ws (pf))).length → 0 < cp) := Lib.hid (by rw [u64s_len, ws_len, ← hcx]; exact id)
  have HBXw3 : Hid (w3.heap[w.heap.size]? = some (.cells #[.int .i64 3, .int .u64 wd, .string pf, .slice A n c, .slice A' n c'] 28 (0, 0))) := Lib.hid ((heap_below HBB3.out (Nat.lt_succ_self _)).trans HBX2.out)
  have b0 := cell_of HBXw3.out 2
  clear hcx
  go_region_held3 (fun w' => w'.cell? ⟨w.heap.size, 2, none⟩ = some (.string pf)) (first | (go_keep; done) | exact r1 | exact r2)
    (first
      | (go_at_call 39; refine (words_si (pf) cp HCcp.out.symm HScp.out.1 _).mono ?_
         rintro e w4 ⟨g4, rfl, hr4, hb4⟩
         have hb5 : Below (w.heap.size + 1) w2 w4 := HBB3.out.trans ⟨hb4.os, hb4.tape, hb4.output, hb4.size, fun k hk => hb4.block k (by have := lt_of_heap HBX2.out; have := HBB3.out.size; have := Blk.lt HWB3.out; have := HG1.out; show k < w3.heap.size; omega)⟩
         have r1 : w4.cell? ⟨w.heap.size, 2, none⟩ = some (.string pf) := cell_of ((heap_below hb5 (Nat.lt_succ_self _)).trans HBX2.out) 2
         have HWB4 : Hid (WB w4 g L1) := Lib.hid ((hb4.block g (Blk.lt HWB3.out)).trans HWB3.out)
         have HR4 := Lib.hid hr4
         have q2 : 0 < (u64s (ws (pf))).length → ∃ ad, some (⟨g4, 0, none⟩ : Addr) = some ad ∧ ∀ j v, (u64s (ws (pf)))[j]? = some v → w4.cell? (ad.add j) = some v := fun hp => reads_cells HR4.out (C0.out hp)
         have Q2 := Lib.hid q2
         have HBB4 := Lib.hid hb5
         clear q2 hr4 hb4 hb5)
      | (refine step_copy_splice rfl (.tmp 35) (.tmp 38) 48 48 rfl 22 Try.underlying48 size22 (some ⟨g, 2, none⟩) (some ⟨g4, 0, none⟩) 2 86 cp cp rfl rfl g 2 (u64s L1) 22 HWB4.out (u64s (ws (pf))) Q1.out (fun hp => ⟨rfl, Q2.out hp⟩) Q3.out (u64s_one _) (w.heap.size + 1) w4 (Below.refl _ _) HG1.out ?_
         intro w5 hw5 hb5
         rw [splice_u64] at hw5
         have HWBw5 : Hid (WB w5 g (splice L1 2 (ws (pf)))) := hw5
         have r2 : w5.cell? ⟨w.heap.size, 2, none⟩ = some (.string pf) := (hb5.cell (by simp)).trans r1
         have HBBw5 : Hid (Below (w.heap.size + 1) w2 w5) := Lib.hid (HBB4.out.trans hb5)
         clear hw5 hb5))
  obtain ⟨L2, hL2⟩ : ∃ L, L = splice L1 2 (ws (pf)) := ⟨_, rfl⟩
  rw [← hL2] at HWBw5
  have HLL2 := Lib.hid hL2
  have HLLL2 : Hid (L2.length = 88) := Lib.hid (by rw [hL2, splice_len (by have := Q3.out; rw [u64s_len, u64s_len] at this; exact this), HLL1.out])
  clear hL2 r1 r2 b0 Q1 Q2 Q3 C0 HWB4 HR4 HBB4 HBXw3
  have HBYw5 : Hid (w5.heap[w.heap.size]? = some (.cells #[.int .i64 3, .int .u64 wd, .string pf, .slice A n c, .slice A' n c'] 28 (0, 0))) := Lib.hid ((heap_below HBBw5.out (Nat.lt_succ_self _)).trans HBX2.out)
  have k0 := cell_of HBYw5.out 0
  go_wp2
  obtain ⟨cx, hcx⟩ : ∃ cx, cx = cnt (strOfNums (plc xs n)).size := ⟨_, rfl⟩
  have HCcx := Lib.hid hcx
  have HScx : Hid ((strOfNums (plc xs n)).size ≤ 1000 ∧ cx ≤ 32) := Lib.hid (by rw [hcx]; unfold cnt; rw [strOfNums_size, plc_len]; omega)
  have Q1 : Hid ((u64s (ws (strOfNums (plc xs n)))).length = Nat.min cx 32) := Lib.hid (by rw [u64s_len, ws_len, ← hcx]; exact (Nat.min_eq_left HScx.out.2).symm)
  have Q3 : Hid (4 + (u64s (ws (strOfNums (plc xs n)))).length ≤ (u64s L2).length) := Lib.hid (by rw [u64s_len, u64s_len, ws_len, ← hcx, HLLL2.out]; have := HScx.out.2; omega)
  have C0 : Hid (0 < (u64s (ws (strOfNums (plc xs n)))).length → 0 < cx) := Lib.hid (by rw [u64s_len, ws_len, ← hcx]; exact id)
  have HBXw5 : Hid (w5.heap[w.heap.size]? = some (.cells #[.int .i64 3, .int .u64 wd, .string pf, .slice A n c, .slice A' n c'] 28 (0, 0))) := Lib.hid ((heap_below HBBw5.out (Nat.lt_succ_self _)).trans HBX2.out)
  have b0 := cell_of HBXw5.out 3
  clear hcx
  go_region_held3 (fun w' => w'.cell? ⟨w.heap.size, 3, none⟩ = some (.slice A n c)) (first | (go_keep; done) | exact r1 | exact r2 | exact r3)
    (first
      | (go_at_call 39; refine (words_si (strOfNums (plc xs n)) cx HCcx.out.symm HScx.out.1 _).mono ?_
         rintro e w4 ⟨g4, rfl, hr4, hb4⟩
         have hb5 : Below (w.heap.size + 1) w2 w4 := HBBp.out.trans ⟨hb4.os, hb4.tape, hb4.output, hb4.size, fun k hk => hb4.block k (by have := lt_of_heap HBX2.out; have := HBBp.out.size; have := Blk.lt HWBp.out; have := HG1.out; show k < wp.heap.size; omega)⟩
         have r2 : w4.cell? ⟨w.heap.size, 3, none⟩ = some (.slice A n c) := cell_of ((heap_below hb5 (Nat.lt_succ_self _)).trans HBX2.out) 3
         have HWB4 : Hid (WB w4 g L2) := Lib.hid ((hb4.block g (Blk.lt HWBp.out)).trans HWBp.out)
         have HR4 := Lib.hid hr4
         have q2 : 0 < (u64s (ws (strOfNums (plc xs n)))).length → ∃ ad, some (⟨g4, 0, none⟩ : Addr) = some ad ∧ ∀ j v, (u64s (ws (strOfNums (plc xs n))))[j]? = some v → w4.cell? (ad.add j) = some v := fun hp => reads_cells HR4.out (C0.out hp)
         have Q2 := Lib.hid q2
         have HBB4 := Lib.hid hb5
         clear q2 hr4 hb4 hb5)
      | (go_at_call 41; refine (places_any A n c xs _ (((HX2.out.below (HBBw5.out.mono (Nat.le_succ _))).drew).more (by have := HBBw5.out.size; have := lt_of_heap HBX2.out; show w.heap.size ≤ w5.heap.size; omega)) HBY.out (by omega)).mono ?_
         rintro e wp ⟨rfl, hbp⟩
         have hbq : Below (w.heap.size + 1) w2 wp := HBBw5.out.trans ⟨hbp.os, hbp.tape, hbp.output, hbp.size, fun k hk => hbp.block k (by have := lt_of_heap HBX2.out; have := HBBw5.out.size; show k < w5.heap.size; omega)⟩
         have r1 : wp.cell? ⟨w.heap.size, 3, none⟩ = some (.slice A n c) := cell_of ((heap_below hbq (Nat.lt_succ_self _)).trans HBX2.out) 3
         have HWBp : Hid (WB wp g L2) := Lib.hid ((hbp.block g (Blk.lt HWBw5.out)).trans HWBw5.out)
         have HBBp := Lib.hid hbq
         clear hbp hbq)
      | (refine step_copy_splice rfl (.tmp 73) (.tmp 77) 48 48 rfl 22 Try.underlying48 size22 (some ⟨g, 4, none⟩) (some ⟨g4, 0, none⟩) 32 84 cx cx rfl rfl g 4 (u64s L2) 22 HWB4.out (u64s (ws (strOfNums (plc xs n)))) Q1.out (fun hp => ⟨rfl, Q2.out hp⟩) Q3.out (u64s_one _) (w.heap.size + 1) w4 (Below.refl _ _) HG1.out ?_
         intro w6 hw5 hb5
         rw [splice_u64] at hw5
         have HWBw6 : Hid (WB w6 g (splice L2 4 (ws (strOfNums (plc xs n))))) := hw5
         have r3 : w6.cell? ⟨w.heap.size, 3, none⟩ = some (.slice A n c) := (hb5.cell (by simp)).trans r2
         have HBBw6 : Hid (Below (w.heap.size + 1) w2 w6) := Lib.hid (HBB4.out.trans hb5)
         clear hw5 hb5))
  obtain ⟨L3, hL3⟩ : ∃ L, L = splice L2 4 (ws (strOfNums (plc xs n))) := ⟨_, rfl⟩
  rw [← hL3] at HWBw6
  have HLL3 := Lib.hid hL3
  have HLLL3 : Hid (L3.length = 88) := Lib.hid (by rw [hL3, splice_len (by have := Q3.out; rw [u64s_len, u64s_len] at this; exact this), HLLL2.out])
  clear hL3 r1 r2 b0 Q1 Q2 Q3 C0 HWB4 HR4 HBB4 HBXw5
  have HBYw6 : Hid (w6.heap[w.heap.size]? = some (.cells #[.int .i64 3, .int .u64 wd, .string pf, .slice A n c, .slice A' n c'] 28 (0, 0))) := Lib.hid ((heap_below HBBw6.out (Nat.lt_succ_self _)).trans HBX2.out)
  go_wp2
  have b0 := cell_of HBYw6.out 4
  go_region_held3 (fun w' => w'.cell? ⟨w.heap.size, 4, none⟩ = some (.slice A' n c')) (first | (go_keep; done) | exact r1)
    (first
      | (go_at_call 40; refine (putKids_any g 36 (88 - 36) (88 - 36) A' c' n L3 ys (w.heap.size + 1) w6.drew HWBw6.out HG1.out (((HY2.out.below (HBBw6.out.mono (Nat.le_succ _))).drew).more (Nat.le_succ _)) (fun i hi => refs_range HL.out.refs i (by rw [LY.out]; exact hi)) (by omega) (by rw [HLLL3.out]; omega) (by rw [HLLL3.out]; omega)).mono ?_
         rintro e w7 ⟨rfl, hwb7, hb7⟩
         have hb8 : Below (w.heap.size + 1) w2 w7 := HBBw6.out.trans ⟨hb7.os, hb7.tape, hb7.output, hb7.size, hb7.block⟩
         have r1 : w7.cell? ⟨w.heap.size, 4, none⟩ = some (.slice A' n c') := cell_of ((heap_below hb8 (Nat.lt_succ_self _)).trans HBX2.out) 4
         have HWB7 := Lib.hid hwb7
         have HBB7 := Lib.hid hb8
         clear hwb7 hb7 hb8))
  go_wp2
  go_ret
  exact ⟨g, rfl, by have := HG1.out; omega, by have h := HWB7.out; rw [HLL3.out, HLL2.out, HL1.out, HHD.out] at h; exact h, HB2.out.trans (HBB7.out.mono (Nat.le_succ _))⟩
set_option maxRecDepth 100000 in
set_option maxHeartbeats 6400000 in
theorem enc4_any (wd : Int) (pf : ByteArray) (A : Option Addr) (c : Nat) (A' : Option Addr) (c' n : Nat) (xs ys : List Int) (w : World) (h : NodeL 4 wd pf xs ys n) (hb : Byt xs)
    (hx : Reads w w.heap.size 1 A n (xs.map (Value.int .u8))) (hy : Reads w w.heap.size 1 A' n (ys.map (Value.int .i64))) :
    Calls Try.prog 23 #[nodeV 4 wd pf A c A' c' n] w (EncR w 264 (encW 4 wd pf xs ys n)) := by
  obtain ⟨i0, hi0, hz0, hz1, hz2⟩ := info_parts info22
  obtain ⟨wb, hwb⟩ : ∃ wb, w.alloc (.cells #[.int .i64 4, .int .u64 wd, .string pf, .slice A n c, .slice A' n c'] 28) = wb := ⟨_, rfl⟩
  have HBW : Hid (Below w.heap.size w wb) := Lib.hid (by rw [← hwb]; exact (Below.refl _ _).alloc (Nat.le_refl _) _)
  have HBX : Hid (wb.heap[w.heap.size]? = some (.cells #[.int .i64 4, .int .u64 wd, .string pf, .slice A n c, .slice A' n c'] 28 (0, 0))) := Lib.hid (by rw [← hwb]; exact heap_alloc_new _ _)
  have HX : Hid (Reads wb w.heap.size 1 A n (xs.map (Value.int .u8))) := Lib.hid (hx.below HBW.out)
  have HY : Hid (Reads wb w.heap.size 1 A' n (ys.map (Value.int .i64))) := Lib.hid (hy.below HBW.out)
  have LX : Hid (xs.length = n) := Lib.hid (klen hx)
  have LY : Hid (ys.length = n) := Lib.hid (klen hy)
  have hn : n ≤ 256 := by have := h.high; simp [highV] at this; omega
  have hp : pf.size ≤ 12 := h.pref
  have HL := Lib.hid h
  have HW := Lib.hid hwb
  have HBY := Lib.hid hb
  have p0 := cell_of HBX.out 0
  have p1 := cell_of HBX.out 1
  have p2 := cell_of HBX.out 2
  have p3 := cell_of HBX.out 3
  have p4 := cell_of HBX.out 4
  have u1 : IntKind.u64.wrap (pf.size : Int) = (pf.size : Int) := IntWalk.u64_in _ (by omega)
  have u2 : IntKind.u64.wrap ((pf.size : Int) * 256) = 256 * (pf.size : Int) := by rw [IntWalk.u64_in _ (by omega)]; omega
  have u3 : IntKind.u64.wrap (n : Int) = (n : Int) := IntWalk.u64_in _ (by omega)
  have u4 : IntKind.u64.wrap ((n : Int) * 65536) = 65536 * (n : Int) := by rw [IntWalk.u64_in _ (by omega)]; omega
  clear h hb hx hy hwb
  unfold nodeV
  go_enter Try.func23, Try.ntmps23
  go_upto_region 3 with (first
    | (rw [HW.out]; go_at_call 21; refine (right_any 4 wd pf A c A' c' n xs ys wb HL.out (by omega) ((HX.out).more HBW.out.size) ((HY.out).more HBW.out.size)).mono ?_
       rintro e w1 ⟨rfl, hb1⟩
       have HB1 := Lib.hid (HBW.out.trans (hb1.mono HBW.out.size))
       have HX1 := Lib.hid (HX.out.below (hb1.mono HBW.out.size))
       have HY1 := Lib.hid (HY.out.below (hb1.mono HBW.out.size))
       have HBX1 : Hid (w1.heap[w.heap.size]? = some (.cells #[.int .i64 4, .int .u64 wd, .string pf, .slice A n c, .slice A' n c'] 28 (0, 0))) := Lib.hid ((heap_below hb1 (lt_of_heap HBX.out)).trans HBX.out)
       clear hb1)
    | fail)
  clear p0 p1 p2 p3 p4
  have k0 := cell_of HBX1.out 0
  have k1 := cell_of HBX1.out 1
  have k2 := cell_of HBX1.out 2
  have k3 := cell_of HBX1.out 3
  have HGL : Hid (w.heap.size < w1.heap.size) := Lib.hid (lt_of_heap HBX1.out)
  go_upto_region 4 with (first
    | (go_at_call 38; refine (size_any 4 (by omega) (by omega) _).mono ?_; rintro e w' ⟨rfl, hw'⟩; replace hw' := hw'.symm; subst hw'; rw [show ((sizeN 4 : Nat) : Int) = 264 from rfl])
    | (refine wpList_make_full _ rfl (.tmp 11) (.tmp 11) 48 rfl w1.heap.size 22 i0 (.int .u64 0) 1 Try.underlying48 hi0 hz0 hz1 .i64 .i64 _ _ 264 rfl rfl rfl rfl (by rw [hz2]; omega) (by unfold maxLen; omega) (Nat.le_refl _) ?_
       intro w2 hown hg2
       rw [zeros_u64] at hown
       have HWB2 := Lib.hid (own_wb hown)
       have hb2 : Below w1.heap.size w1 w2 := (Below.refl _ _).grown hg2 (Nat.le_refl _) (by simp)
       have HB2 := Lib.hid (HB1.out.trans (hb2.mono HB1.out.size))
       have HX2 := Lib.hid (HX1.out.below (hb2.mono HB1.out.size))
       have HY2 := Lib.hid (HY1.out.below (hb2.mono HB1.out.size))
       have HBX2 : Hid (w2.heap[w.heap.size]? = some (.cells #[.int .i64 4, .int .u64 wd, .string pf, .slice A n c, .slice A' n c'] 28 (0, 0))) := Lib.hid ((heap_below hb2 HGL.out).trans HBX1.out)
       clear hown hg2 hb2)
    | fail)
  obtain ⟨g, hg⟩ : ∃ g, g = w1.heap.size := ⟨_, rfl⟩
  rw [← hg] at HWB2 HGL ⊢
  clear hg k0 k1 k2 k3
  have k0 := cell_of HBX2.out 0
  have k1 := cell_of HBX2.out 1
  have k2 := cell_of HBX2.out 2
  have k3 := cell_of HBX2.out 3
  have hne : ¬ g = w.heap.size := by have := HGL.out; omega
  have hnf : ¬ w.heap.size = g := by have := HGL.out; omega
  have y0 : w2.cell? ⟨g, 0, none⟩ = some (.int .u64 0) := HWB2.out.cell 0 (by simp)
  have y1 : w2.cell? ⟨g, 1, none⟩ = some (.int .u64 0) := HWB2.out.cell 1 (by simp)
  have v0 : w2.frozen? ⟨g, 0, none⟩ = false := Blk.frozen HWB2.out 0
  have v1 : w2.frozen? ⟨g, 1, none⟩ = false := Blk.frozen HWB2.out 1
  go_upto_region 6 with (fail)
  obtain ⟨hd, hhd⟩ : ∃ hd, hd = hdW 4 pf.size n := ⟨_, rfl⟩
  have HHD := Lib.hid hhd
  obtain ⟨L1, hL1⟩ : ∃ L1, L1 = ((List.replicate 264 (0 : Int)).set 0 wd).set 1 hd := ⟨_, rfl⟩
  have HL1 := Lib.hid hL1
  have HLL1 : Hid (L1.length = 264) := Lib.hid (by rw [hL1]; simp)
  obtain ⟨w3, hw3⟩ : ∃ w3, (w2.setCell ⟨g, 0, none⟩ (.int .u64 wd)).setCell ⟨g, 1, none⟩ (.int .u64 (bits .or .u64 (bits .or .u64 4 (256 * (pf.size : Int))) (65536 * (n : Int)))) = w3 := ⟨_, rfl⟩
  have HWB3 : Hid (WB w3 g L1) := Lib.hid (by rw [← hw3, hL1, hhd]; exact (HWB2.out.set_ 0 wd).set_ 1 _)
  have HG1 : Hid (w.heap.size + 1 ≤ g) := Lib.hid HGL.out
  have HBB3 : Hid (Below (w.heap.size + 1) w2 w3) := Lib.hid (by rw [← hw3]; exact ((Below.refl _ _).setCell (p := ⟨g, 0, none⟩) HG1.out _).setCell (p := ⟨g, 1, none⟩) HG1.out _)
  rw [hw3]
  clear hw3 hL1 hhd y0 y1 v0 v1 k0 k1 k2 k3 hne hnf u1 u2 u3 u4
  obtain ⟨cp, hcx⟩ : ∃ cx, cx = cnt (pf).size := ⟨_, rfl⟩
  have HCcp := Lib.hid hcx
  have HScp : Hid ((pf).size ≤ 1000 ∧ cp ≤ 2) := Lib.hid (by rw [hcx]; unfold cnt; omega)
  have Q1 : Hid ((u64s (ws (pf))).length = Nat.min cp 2) := Lib.hid (by rw [u64s_len, ws_len, ← hcx]; exact (Nat.min_eq_left HScp.out.2).symm)
  have Q3 : Hid (2 + (u64s (ws (pf))).length ≤ (u64s L1).length) := Lib.hid (by rw [u64s_len, u64s_len, ws_len, ← hcx, HLL1.out]; have := HScp.out.2; omega)
  have C0 : Hid (0 < (u64s (ws (pf))).length → 0 < cp) := Lib.hid (by rw [u64s_len, ws_len, ← hcx]; exact id)
  have HBXw3 : Hid (w3.heap[w.heap.size]? = some (.cells #[.int .i64 4, .int .u64 wd, .string pf, .slice A n c, .slice A' n c'] 28 (0, 0))) := Lib.hid ((heap_below HBB3.out (Nat.lt_succ_self _)).trans HBX2.out)
  have b0 := cell_of HBXw3.out 2
  clear hcx
  go_region_held3 (fun w' => w'.cell? ⟨w.heap.size, 2, none⟩ = some (.string pf)) (first | (go_keep; done) | exact r1 | exact r2)
    (first
      | (go_at_call 39; refine (words_si (pf) cp HCcp.out.symm HScp.out.1 _).mono ?_
         rintro e w4 ⟨g4, rfl, hr4, hb4⟩
         have hb5 : Below (w.heap.size + 1) w2 w4 := HBB3.out.trans ⟨hb4.os, hb4.tape, hb4.output, hb4.size, fun k hk => hb4.block k (by have := lt_of_heap HBX2.out; have := HBB3.out.size; have := Blk.lt HWB3.out; have := HG1.out; show k < w3.heap.size; omega)⟩
         have r1 : w4.cell? ⟨w.heap.size, 2, none⟩ = some (.string pf) := cell_of ((heap_below hb5 (Nat.lt_succ_self _)).trans HBX2.out) 2
         have HWB4 : Hid (WB w4 g L1) := Lib.hid ((hb4.block g (Blk.lt HWB3.out)).trans HWB3.out)
         have HR4 := Lib.hid hr4
         have q2 : 0 < (u64s (ws (pf))).length → ∃ ad, some (⟨g4, 0, none⟩ : Addr) = some ad ∧ ∀ j v, (u64s (ws (pf)))[j]? = some v → w4.cell? (ad.add j) = some v := fun hp => reads_cells HR4.out (C0.out hp)
         have Q2 := Lib.hid q2
         have HBB4 := Lib.hid hb5
         clear q2 hr4 hb4 hb5)
      | (refine step_copy_splice rfl (.tmp 35) (.tmp 38) 48 48 rfl 22 Try.underlying48 size22 (some ⟨g, 2, none⟩) (some ⟨g4, 0, none⟩) 2 262 cp cp rfl rfl g 2 (u64s L1) 22 HWB4.out (u64s (ws (pf))) Q1.out (fun hp => ⟨rfl, Q2.out hp⟩) Q3.out (u64s_one _) (w.heap.size + 1) w4 (Below.refl _ _) HG1.out ?_
         intro w5 hw5 hb5
         rw [splice_u64] at hw5
         have HWBw5 : Hid (WB w5 g (splice L1 2 (ws (pf)))) := hw5
         have r2 : w5.cell? ⟨w.heap.size, 2, none⟩ = some (.string pf) := (hb5.cell (by simp)).trans r1
         have HBBw5 : Hid (Below (w.heap.size + 1) w2 w5) := Lib.hid (HBB4.out.trans hb5)
         clear hw5 hb5))
  obtain ⟨L2, hL2⟩ : ∃ L, L = splice L1 2 (ws (pf)) := ⟨_, rfl⟩
  rw [← hL2] at HWBw5
  have HLL2 := Lib.hid hL2
  have HLLL2 : Hid (L2.length = 264) := Lib.hid (by rw [hL2, splice_len (by have := Q3.out; rw [u64s_len, u64s_len] at this; exact this), HLL1.out])
  clear hL2 r1 r2 b0 Q1 Q2 Q3 C0 HWB4 HR4 HBB4 HBXw3
  have HBYw5 : Hid (w5.heap[w.heap.size]? = some (.cells #[.int .i64 4, .int .u64 wd, .string pf, .slice A n c, .slice A' n c'] 28 (0, 0))) := Lib.hid ((heap_below HBBw5.out (Nat.lt_succ_self _)).trans HBX2.out)
  have k0 := cell_of HBYw5.out 0
  have k3 := cell_of HBYw5.out 3
  go_wp2
  go_loopw [4, 5, 89] (fun _ _ i wr => ∃ j : Nat, i = .int .i64 j ∧ j ≤ n ∧ Hid (WB wr g (pz L2 xs ys j) ∧ Below (w.heap.size + 1) w2 wr)) (fun _ _ i _ => n - (intOf i).toNat)
  case atStart => exact ⟨0, rfl, Nat.zero_le _, Lib.hid ⟨HWBw5.out, HBBw5.out⟩⟩
  case round =>
    obtain ⟨j, rfl, hj, H⟩ := hrel
    have HBYr : Hid (wr.heap[w.heap.size]? = some (.cells #[.int .i64 4, .int .u64 wd, .string pf, .slice A n c, .slice A' n c'] 28 (0, 0))) := Lib.hid ((heap_below H.out.2 (Nat.lt_succ_self _)).trans HBX2.out)
    have b4 := cell_of HBYr.out 4
    by_cases hlt : j < n
    · obtain ⟨ax, rfl, _, gx⟩ := kget (HX2.out.below (H.out.2.mono (Nat.le_succ _))) hlt
      obtain ⟨ay, rfl, _, gy⟩ := kget (HY2.out.below (H.out.2.mono (Nat.le_succ _))) hlt
      have hbx := HBY.out (xs.getD j 0) (by
        have : j < xs.length := by rw [LX.out]; exact hlt
        rw [List.getD_eq_getElem?_getD, List.getElem?_eq_getElem this]; exact List.getElem_mem this)
      have hyr := refs_range HL.out.refs j (by rw [LY.out]; exact hlt)
      have HN : Hid (WB (wr.setCell ⟨g, (4 + xs.getD j 0).toNat, none⟩ (.int .u64 (ys.getD j 0))) g (pz L2 xs ys (j + 1)) ∧ Below (w.heap.size + 1) w2 (wr.setCell ⟨g, (4 + xs.getD j 0).toNat, none⟩ (.int .u64 (ys.getD j 0)))) := Lib.hid ⟨H.out.1.set_ _ _, H.out.2.setCell (by show w.heap.size + 1 ≤ g; exact HG1.out) _⟩
      have z0 := H.out.1.cell (4 + xs.getD j 0).toNat (by rw [pz_len, HLLL2.out]; omega)
      generalize xs.getD j 0 = x0 at *
      generalize ys.getD j 0 = y at *
      obtain ⟨x, rfl⟩ := Int.eq_ofNat_of_zero_le hbx.1
      have ex : (4 + (x : Int)).toNat = 4 + x := by omega
      rw [ex] at HN z0
      have z1 : wr.frozen? ⟨g, 4 + x, none⟩ = false := Blk.frozen H.out.1 _
      generalize (pz L2 xs ys j).getD (4 + x) 0 = yy at z0
      have hw1 : IntKind.u64.wrap y = y := by rw [IntKind.wrap_u64]; omega
      have hx1 : (x : Int) < 256 := by omega
      have hj1 : (j : Int) < n := by omega
      have hx2 : 4 + (x : Int) < 264 := by omega
      clear hbx hyr
      go_wp2
      go_roundw
      case rel => exact ⟨j + 1, by go_num, by omega, HN⟩
      case measure => simp only [intOf]; omega
    · obtain rfl : j = n := by omega
      have hj3 : ¬ (j : Int) < j := by omega
      go_wp2
      go_ret
      exact ⟨g, rfl, by have := HG1.out; omega, by have h := H.out.1; rw [HLL2.out, HL1.out, HHD.out] at h; exact h, HB2.out.trans (H.out.2.mono (Nat.le_succ _))⟩
theorem enc_any (kd wd : Int) (pf : ByteArray) (A : Option Addr) (c : Nat) (A' : Option Addr) (c' n : Nat) (xs ys : List Int) (w : World) (h : NodeL kd wd pf xs ys n) (h1 : 1 ≤ kd) (h4 : kd ≤ 4) (hb : Byt xs)
    (hx : Reads w w.heap.size 1 A n (xs.map (Value.int .u8))) (hy : Reads w w.heap.size 1 A' n (ys.map (Value.int .i64))) :
    Calls Try.prog 23 #[nodeV kd wd pf A c A' c' n] w (EncR w (sizeN kd) (encW kd wd pf xs ys n)) := by
  rcases (show kd = 1 ∨ kd = 2 ∨ kd = 3 ∨ kd = 4 by omega) with rfl | rfl | rfl | rfl
  · exact enc1_any wd pf A c A' c' n xs ys w h hb hx hy
  · exact enc2_any wd pf A c A' c' n xs ys w h hb hx hy
  · exact enc3_any wd pf A c A' c' n xs ys w h hb hx hy
  · exact enc4_any wd pf A c A' c' n xs ys w h hb hx hy
end Go.Proofs.Ytononinmjijhoaa
