/-
  The law NodeFull at any kind and any byte: the walk; no condition.
-/
import Derived.Test.YtononinmjijhoaaNde
import Derived.Deep.CutBlock
import Derived.Deep.CutRange
namespace Go.Proofs.Ytononinmjijhoaa
open Go.RowKit Go.WideShapes Go.ChangeShapes
set_option linter.all false
theorem low_end (b : Int) : ∀ xs : List Int, (∀ x ∈ xs, x < b) → lowN b xs = xs.length
  | [], _ => rfl
  | x :: l, h => by rw [lowN, if_pos (h x (by simp)), low_end b l (fun y hy => h y (by simp [hy]))]; rfl
theorem isN_end {b : Int} {xs : List Int} (h : ∀ x ∈ xs, x < b) : isN b xs = false := by
  unfold isN; rw [low_end b xs h]; simp
theorem isN_mem (b : Int) : ∀ xs : List Int, Pw xs → (isN b xs = true ↔ b ∈ xs)
  | [], _ => by simp [isN, lowN]
  | x :: l, h => by
    have h0 := List.pairwise_cons.1 h
    have ih := isN_mem b l h0.2
    by_cases hx : x < b
    · have e2 : isN b (x :: l) = isN b l := by unfold isN; rw [lowN, if_pos hx]; simp
      rw [e2, ih, List.mem_cons]
      exact ⟨.inr, fun k => k.elim (fun e => absurd e (by omega)) id⟩
    · have e1 : lowN b (x :: l) = 0 := by rw [lowN, if_neg hx]
      unfold isN
      rw [e1]
      simp only [List.length_cons, List.getD_cons_zero, decide_eq_true_eq, List.mem_cons]
      constructor
      · rintro ⟨_, e⟩; exact .inl e.symm
      · rintro (e | e)
        · exact ⟨by omega, e.symm⟩
        · have := h0.1 b e; omega
theorem fndB_is {b : Int} {xs : List Int} (h : Pw xs) : fndB b xs = isN b xs := by
  have h1 := isN_mem b xs h
  have h2 := pos_mem b xs
  unfold fndB
  by_cases hb : b ∈ xs
  · rw [h1.2 hb, decide_eq_true (h2.2 hb)]
  · rw [decide_eq_false (fun k => hb (h2.1 k))]
    cases hi : isN b xs
    · rfl
    · exact absurd (h1.1 hi) hb
/-- The bytes and the children of a node that NodeFull has filled with i. -/
def fx (i : Nat) : List Int := (List.range i).map fun k : Nat => 4 * (k : Int)
def fy (i : Nat) : List Int := (List.range i).map fun k : Nat => refV k 1 false
theorem fx_len (i : Nat) : (fx i).length = i := by simp [fx]
theorem fy_len (i : Nat) : (fy i).length = i := by simp [fy]
theorem fx_lt {i : Nat} : ∀ x ∈ fx i, x < 4 * (i : Int) := by
  intro x hx
  simp only [fx, List.mem_map, List.mem_range] at hx
  obtain ⟨k, hk, rfl⟩ := hx
  omega
theorem fx_succ (i : Nat) : putL (4 * (i : Int)) (fx i) = fx (i + 1) := by
  rw [putL_is, if_neg (by rw [isN_end fx_lt]; decide), low_end _ _ fx_lt, List.take_length, List.drop_length]
  simp [fx, List.range_succ]
theorem fy_succ (i : Nat) : (fy i).take (lowN (4 * (i : Int)) (fx i)) ++ refV i 1 false :: (fy i).drop (lowN (4 * (i : Int)) (fx i)) = fy (i + 1) := by
  have e : lowN (4 * (i : Int)) (fx i) = (fy i).length := by rw [low_end _ _ fx_lt, fx_len, fy_len]
  rw [e, List.take_length, List.drop_length]
  simp [fy, List.range_succ]
theorem fx_pw : ∀ i, Pw (fx i)
  | 0 => by simp [fx, Pw]
  | i + 1 => by rw [← fx_succ]; exact putL_pw _ _ (fx_pw i)
theorem fy_refs {i : Nat} (h : i ≤ 60) : Refs (fy i) := by
  intro k hk
  rw [fy_len] at hk
  exact ⟨k, 1, false, by simp [fy, List.getD_eq_getElem?_getD, hk], by omega, by omega, by omega, by omega⟩
theorem full_node {c : Int} {i : Nat} (hi : (i : Int) ≤ highV c) (h0 : 0 < highV c) (h6 : i ≤ 60) : NodeL c 0 ⟨#[]⟩ (fx i) (fy i) i := ⟨hi, h0, by decide, by decide, pw_asc (fx_pw i), fy_refs h6⟩
set_option maxRecDepth 100000 in
set_option maxHeartbeats 12800000 in
theorem full_any (t0 b : Int) (w : World) (hb0 : 0 ≤ b) (hb1 : b < 256) :
    Calls Try.prog 8 #[.int .i64 t0, .int .u8 b] w fun e w' => e = .returned (.bool true) ∧ Below w.heap.size w w' := by
  obtain ⟨k, hk, hk3⟩ := withinV_nat t0 3 (by omega)
  have HQ : Hid (0 + withinV t0 (2 - 0 + 1) = (k : Int)) := Lib.hid (by rw [← hk]; show 0 + withinV t0 (2 - 0 + 1) = withinV t0 ((3 : Nat) : Int); rw [show ((2 : Int) - 0 + 1) = ((3 : Nat) : Int) from by omega]; omega)
  obtain ⟨c, hc⟩ : ∃ c, c = 1 + (k : Int) := ⟨_, rfl⟩
  obtain ⟨h, hh, h4, h48, hup, hdn⟩ : ∃ h : Nat, highV c = (h : Int) ∧ 4 ≤ h ∧ h ≤ 48 ∧ (h : Int) < highV (c + 1) ∧ highV (c - 1) < (h : Int) := by
    subst hc
    rcases (show k = 0 ∨ k = 1 ∨ k = 2 by omega) with rfl | rfl | rfl
    · exact ⟨4, by decide, by omega, by omega, by decide, by decide⟩
    · exact ⟨16, by decide, by omega, by omega, by decide, by decide⟩
    · exact ⟨48, by decide, by omega, by omega, by decide, by decide⟩
  have c1 : 1 ≤ c := by omega
  have c3 : c ≤ 3 := by omega
  have HC := Lib.hid hc
  have HH := Lib.hid hh
  have HUP := Lib.hid hup
  have HDN := Lib.hid hdn
  clear hk hc hh hup hdn
  go_enter Try.func8, Try.ntmps8
  go_upto_region 2 with (first
    | (go_at_call 10; refine (within_any _ 0 2 (by omega) (by omega) (by omega) _).mono ?_; rintro e w' ⟨rfl, rfl⟩; rw [HQ.out])
    | fail)
  rw [← HC.out]
  clear HC HQ hk3
  go_wp2
  go_loopw [7] (fun i wr => ∃ j : Nat, i = .int .i64 j ∧ j ≤ h ∧ Hid (Below w.heap.size w wr ∧ ∃ A c1 A' c1', NX w.heap.size w.heap.size c 0 ⟨#[]⟩ A c1 A' c1' j (fx j) (fy j) wr)) (fun i _ => h - (intOf i).toNat)
  case atStart => exact ⟨0, rfl, Nat.zero_le _, Lib.hid ⟨(Below.refl _ _).alloc (Nat.le_refl _) _, none, 0, none, 0, ⟨Nat.le_refl _, heap_alloc_new _ _, Mid.nil _ _ _ _, Mid.nil _ _ _ _⟩⟩⟩
  case round =>
    obtain ⟨j, rfl, hj, H⟩ := hrel
    obtain ⟨hbl, D, d, D', d', hN⟩ := H.out
    have HBL := Lib.hid hbl
    have HN := Lib.hid hN
    clear hbl hN H
    by_cases hlt : j < h
    · have hj1 : (j : Int) < h := by omega
      have hj2 : (j : Int) < 60 := by omega
      have HNL : Hid (NodeL c 0 ⟨#[]⟩ (fx j) (fy j) j) := Lib.hid (full_node (by rw [HH.out]; omega) (by rw [HH.out]; omega) (by omega))
      have HOK : Hid ((isN (4 * (j : Int)) (fx j) || decide ((j : Int) < highV c)) = true) := Lib.hid (by rw [HH.out, decide_eq_true hj1]; simp)
      have hw1 : IntKind.i64.wrap (4 * (j : Int)) = 4 * (j : Int) := wraps_i64 _ (by omega) (by omega)
      have hw2 : IntKind.u8.wrap (4 * (j : Int)) = 4 * (j : Int) := by simp [IntKind.wrap, IntKind.signed, IntKind.bits]; omega
      go_upto_region 6 with (first
        | (go_at_call 12; refine (high_any c _).mono ?_; rintro e w' ⟨rfl, hw'⟩; replace hw' := hw'.symm; subst hw'; rw [HH.out])
        | fail)
      go_cut [8, 9] from 35 to 45 (fun p ok wx => ∃ q : Nat, p = .pointer (some ⟨q, 0, none⟩) ∧ ok = .bool true ∧ Hid (Below wr.heap.size wr wx ∧ ∃ A c1 A' c1', NX w.heap.size q c 0 ⟨#[]⟩ A c1 A' c1' (j + 1) (fx (j + 1)) (fy (j + 1)) wx))
      case first =>
        have hbx := HN.out.box
        have p0 := cell_of hbx 0
        have p1 := cell_of hbx 1
        have p2 := cell_of hbx 2
        have p3 := cell_of hbx 3
        have p4 := cell_of hbx 4
        have HAL : Hid (Below wr.heap.size wr (wr.alloc (.cells #[.int .i64 0, .int .u64 0, .string ⟨#[]⟩, .slice none 0 0, .slice none 0 0] 28))) := Lib.hid ((Below.refl _ _).alloc (Nat.le_refl _) _)
        have HAS : Hid ((wr.alloc (.cells #[.int .i64 0, .int .u64 0, .string ⟨#[]⟩, .slice none 0 0, .slice none 0 0] 28)).heap.size = wr.heap.size + 1) := Lib.hid (by simp)
        have HAQ : Hid ((wr.alloc (.cells #[.int .i64 0, .int .u64 0, .string ⟨#[]⟩, .slice none 0 0, .slice none 0 0] 28)).heap[wr.heap.size]? = some (.cells #[.int .i64 0, .int .u64 0, .string ⟨#[]⟩, .slice none 0 0, .slice none 0 0] 28 (0, 0))) := Lib.hid (heap_alloc_new wr _)
        have HLB : Hid (w.heap.size ≤ wr.heap.size) := Lib.hid (by have h1 := HN.out.far; have h2 := lt_of_heap HN.out.box; omega)
        clear hbx
        go_region_held3 (fun w' => w'.cell? ⟨w.heap.size, 0, none⟩ = some (.int .i64 c) ∧ w'.cell? ⟨w.heap.size, 1, none⟩ = some (.int .u64 0) ∧ w'.cell? ⟨w.heap.size, 2, none⟩ = some (.string ⟨#[]⟩) ∧ w'.cell? ⟨w.heap.size, 3, none⟩ = some (.slice D j d) ∧ w'.cell? ⟨w.heap.size, 4, none⟩ = some (.slice D' j d')) (first | with_reducible exact ⟨p0, p1, p2, p3, p4⟩ | with_reducible exact ⟨r0, r1, r2, r3, r4⟩ | with_reducible exact ⟨t0, t1, t2, t3, t4⟩ | (go_keep; done))
          (first
            | (go_at_call 17; refine (ref_any (j : Int) 1 false (by omega) (by omega) (by omega) (by omega) _).mono ?_; rintro e w' ⟨rfl, hw'⟩; replace hw' := hw'.symm; subst hw')
            | (go_at_call 19
               have hnx := HN.out
               have WO := with_any c 0 ⟨#[]⟩ D d D' d' j (fx j) (fy j) (4 * (j : Int)) _ (j : Int) 1 false wr.drew HNL.out (by omega) rfl (by omega) (by omega) (by omega) (by omega) hnx.x.reads.drew hnx.y.reads.drew
               unfold nodeV at WO
               with_reducible refine WO.mono ?_
               clear WO
               rintro e wn ⟨kd9, wd9, pf9, Gn, gn, Hn, hn, m, zs, ks, rfl, hm1, hm2, hb1, him⟩
               rw [HOK.out]
               rw [HOK.out] at him
               unfold nodeV
               replace him := him rfl
               have HIM := Lib.hid him
               have hb2 : Below wr.heap.size wr wn := ⟨hb1.os, hb1.tape, hb1.output, hb1.size, hb1.block⟩
               have hbn : Below wr.heap.size wr wn := hb2
               have hh1 : wn.heap[w.heap.size]? = some (.cells #[.int .i64 c, .int .u64 0, .string ⟨#[]⟩, .slice D j d, .slice D' j d'] 28 (0, 0)) := (heap_below hbn (lt_of_heap HN.out.box)).trans HN.out.box
               have r0 := cell_of hh1 0
               have r1 := cell_of hh1 1
               have r2 := cell_of hh1 2
               have r3 := cell_of hh1 3
               have r4 := cell_of hh1 4
               have NW : NX (w.heap.size) wn.heap.size kd9 wd9 pf9 Gn gn Hn hn m zs ks _ := NX.new (kd := kd9) (wd := wd9) (pf := pf9) HLB.out hbn.size hm1 hm2
               have BZ := hbn.alloc hbn.size (.cells #[.int .i64 kd9, .int .u64 wd9, .string pf9, .slice Gn m gn, .slice Hn m hn] 28)
               obtain ⟨wz, hwz⟩ : ∃ wz, wn.alloc (.cells #[.int .i64 kd9, .int .u64 wd9, .string pf9, .slice Gn m gn, .slice Hn m hn] 28) = wz := ⟨_, rfl⟩
               rw [hwz] at NW BZ
               obtain ⟨q, hq⟩ : ∃ q, wn.heap.size = q := ⟨_, rfl⟩
               rw [hq] at NW
               have HWZ := Lib.hid hwz
               have HQE := Lib.hid hq
               have HNW := Lib.hid NW
               have HBZ := Lib.hid BZ
               clear hwz hq NW BZ hm1 hm2 hb1 hb2 hbn hh1 him hnx)
            | (go_at_call 19
               have hnx := HN.out.keep HAL.out
               have WO := with_any c 0 ⟨#[]⟩ D d D' d' j (fx j) (fy j) (4 * (j : Int)) _ (j : Int) 1 false (wr.alloc (.cells #[.int .i64 0, .int .u64 0, .string ⟨#[]⟩, .slice none 0 0, .slice none 0 0] 28)).drew HNL.out (by omega) rfl (by omega) (by omega) (by omega) (by omega) hnx.x.reads.drew hnx.y.reads.drew
               unfold nodeV at WO
               with_reducible refine WO.mono ?_
               clear WO
               rintro e wn ⟨kd9, wd9, pf9, Gn, gn, Hn, hn, m, zs, ks, rfl, hm1, hm2, hb1, him⟩
               rw [HOK.out]
               rw [HOK.out] at him
               unfold nodeV
               replace him := him rfl
               have HIM := Lib.hid him
               have hb2 : Below (wr.alloc (.cells #[.int .i64 0, .int .u64 0, .string ⟨#[]⟩, .slice none 0 0, .slice none 0 0] 28)).heap.size (wr.alloc (.cells #[.int .i64 0, .int .u64 0, .string ⟨#[]⟩, .slice none 0 0, .slice none 0 0] 28)) wn := ⟨hb1.os, hb1.tape, hb1.output, hb1.size, hb1.block⟩
               have hbn : Below wr.heap.size wr wn := HAL.out.trans (hb2.mono (by rw [HAS.out]; omega))
               have hh1 : wn.heap[w.heap.size]? = some (.cells #[.int .i64 c, .int .u64 0, .string ⟨#[]⟩, .slice D j d, .slice D' j d'] 28 (0, 0)) := (heap_below hbn (lt_of_heap HN.out.box)).trans HN.out.box
               have r0 := cell_of hh1 0
               have r1 := cell_of hh1 1
               have r2 := cell_of hh1 2
               have r3 := cell_of hh1 3
               have r4 := cell_of hh1 4
               have hq1 : wn.heap[wr.heap.size]? = some (.cells #[.int .i64 0, .int .u64 0, .string ⟨#[]⟩, .slice none 0 0, .slice none 0 0] 28 (0, 0)) := (heap_below hb2 (by rw [HAS.out]; omega)).trans HAQ.out
               have HQ1 := Lib.hid hq1
               have s0 := cell_of hq1 0
               have f0 := frozen_of hq1 0
               have s1 := cell_of hq1 1
               have f1 := frozen_of hq1 1
               have s2 := cell_of hq1 2
               have f2 := frozen_of hq1 2
               have s3 := cell_of hq1 3
               have f3 := frozen_of hq1 3
               have s4 := cell_of hq1 4
               have f4 := frozen_of hq1 4
               have hne : w.heap.size ≠ wr.heap.size := by have := lt_of_heap HN.out.box; omega
               have ht1 : (((((wn.setCell ⟨wr.heap.size, 0, none⟩ (.int .i64 kd9)).setCell ⟨wr.heap.size, 1, none⟩ (.int .u64 wd9)).setCell ⟨wr.heap.size, 2, none⟩ (.string pf9)).setCell ⟨wr.heap.size, 3, none⟩ (.slice Gn m gn)).setCell ⟨wr.heap.size, 4, none⟩ (.slice Hn m hn)).heap[w.heap.size]? = some (.cells #[.int .i64 c, .int .u64 0, .string ⟨#[]⟩, .slice D j d, .slice D' j d'] 28 (0, 0)) := heap_far hne (heap_far hne (heap_far hne (heap_far hne (heap_far hne hh1))))
               have t0 := cell_of ht1 0
               have t1 := cell_of ht1 1
               have t2 := cell_of ht1 2
               have t3 := cell_of ht1 3
               have t4 := cell_of ht1 4
               have NW : NX (w.heap.size) wr.heap.size kd9 wd9 pf9 Gn gn Hn hn m zs ks (put5 wn wr.heap.size kd9 wd9 pf9 Gn gn Hn hn m) := NX.old (B := w.heap.size) (kd := kd9) (wd := wd9) (pf := pf9) HQ1.out HLB.out (by show w.heap.size ≤ (wr.alloc (.cells #[.int .i64 0, .int .u64 0, .string ⟨#[]⟩, .slice none 0 0, .slice none 0 0] 28)).heap.size; rw [HAS.out]; have := HLB.out; omega) hm1 hm2
               have BZ := put5_below (b := wr.heap.size) (kd := kd9) (wd := wd9) (pf := pf9) (G := Gn) (g := gn) (G' := Hn) (g' := hn) (m := m) hbn (Nat.le_refl _)
               clear ht1 hne hq1
               obtain ⟨wz, hwz⟩ : ∃ wz, put5 wn wr.heap.size kd9 wd9 pf9 Gn gn Hn hn m = wz := ⟨_, rfl⟩
               rw [hwz] at NW BZ
               unfold put5 at hwz
               obtain ⟨q, hq⟩ : ∃ q, wr.heap.size = q := ⟨_, rfl⟩
               rw [hq] at NW
               have HWZ := Lib.hid hwz
               have HQE := Lib.hid hq
               have HNW := Lib.hid NW
               have HBZ := Lib.hid BZ
               clear hwz hq NW BZ hm1 hm2 hb1 hb2 hbn hh1 him hnx))
        all_goals
          rw [HWZ.out, HQE.out]
          obtain ⟨rfl, rfl, rfl, hzs, hks⟩ := HIM.out
          have HR : Hid (NX w.heap.size q kd9 0 ⟨#[]⟩ Gn gn Hn hn (j + 1) (fx (j + 1)) (fy (j + 1)) wz) := Lib.hid (by
            have h := HNW.out
            rw [if_neg (by rw [isN_end fx_lt]; decide), fy_succ] at hks
            rw [fx_succ] at hzs
            subst hzs hks
            have hl : m = j + 1 := by have := h.x.1; rw [List.length_map, fx_len] at this; omega
            subst hl
            exact h)
          clear hzs hks
          go_wp2
          go_meet
          exact ⟨q, rfl, rfl, Lib.hid ⟨HBZ.out, Gn, gn, Hn, hn, HR.out⟩⟩
      obtain ⟨q, rfl, rfl, HG⟩ := hcut
      obtain ⟨hbz, E5, e5, E6, e6, hq⟩ := HG.out
      have hn5 := HN.out.keep hbz
      have z0 := cell_of hq.box 0
      have z1 := cell_of hq.box 1
      have z2 := cell_of hq.box 2
      have z3 := cell_of hq.box 3
      have z4 := cell_of hq.box 4
      have y0 := cell_of hn5.box 0
      have x0 := frozen_of hn5.box 0
      have y1 := cell_of hn5.box 1
      have x1 := frozen_of hn5.box 1
      have y2 := cell_of hn5.box 2
      have x2 := frozen_of hn5.box 2
      have y3 := cell_of hn5.box 3
      have x3 := frozen_of hn5.box 3
      have y4 := cell_of hn5.box 4
      have x4 := frozen_of hn5.box 4
      have HFB : Hid (Below w.heap.size w wc) := Lib.hid (HBL.out.trans (hbz.mono HBL.out.size))
      have HFN := Lib.hid (hn5.put hq)
      clear hn5 hq hbz HG
      go_wp2
      go_roundw
      case rel => exact ⟨j + 1, by go_num, by omega, Lib.hid ⟨put5_below HFB.out (Nat.le_refl _), E5, e5, E6, e6, HFN.out⟩⟩
      case measure => simp only [intOf]; omega
    · obtain rfl : j = h := by omega
      have hj3 : ¬ (j : Int) < j := by omega
      obtain ⟨xs, hxs⟩ : ∃ xs, xs = fx j := ⟨_, rfl⟩
      obtain ⟨ys, hys⟩ : ∃ ys, ys = fy j := ⟨_, rfl⟩
      obtain ⟨T, hT⟩ : ∃ T, T = isN b xs := ⟨_, rfl⟩
      rw [← hxs, ← hys] at HN
      have HXS := Lib.hid hxs
      have HYS := Lib.hid hys
      have HT := Lib.hid hT
      have hbx := HN.out.box
      have p0 := cell_of hbx 0
      have p1 := cell_of hbx 1
      have p2 := cell_of hbx 2
      have p3 := cell_of hbx 3
      have p4 := cell_of hbx 4
      have HNL : Hid (NodeL c 0 ⟨#[]⟩ xs ys j) := Lib.hid (by rw [hxs, hys]; exact full_node (by rw [HH.out]; omega) (by rw [HH.out]; omega) (by omega))
      have HFD : Hid (fndB b xs = T) := Lib.hid (by rw [hT]; exact fndB_is (by rw [hxs]; exact fx_pw j))
      clear hxs hys hT hbx
      go_upto_region 11 with (first
        | (go_at_call 12; refine (high_any c _).mono ?_; rintro e w' ⟨rfl, hw'⟩; replace hw' := hw'.symm; subst hw'; rw [HH.out])
        | (go_at_call 18; refine (find_any c 0 ⟨#[]⟩ D d D' d' j xs ys b _ (by omega) HN.out.x.reads HN.out.y.reads).mono ?_
           rintro e w1 ⟨rfl, hb1⟩
           rw [HFD.out]
           have HN1 := Lib.hid (HN.out.keep hb1)
           have HB1 := Lib.hid (HBL.out.trans (hb1.mono HBL.out.size))
           clear hb1)
        | fail)
      have HOK : Hid ((isN b xs || decide ((j : Int) < highV c)) = T) := Lib.hid (by rw [HH.out, decide_eq_false (by omega : ¬ (j : Int) < (j : Int)), HT.out]; simp)
      clear p0 p1 p2 p3 p4 HN HBL
      go_cut [12, 13] from 54 to 61 (fun p ok wx => ok = .bool T ∧ Hid (Below w1.heap.size w1 wx))
      case first =>
        have hbx := HN1.out.box
        have p0 := cell_of hbx 0
        have p1 := cell_of hbx 1
        have p2 := cell_of hbx 2
        have p3 := cell_of hbx 3
        have p4 := cell_of hbx 4
        have HAL : Hid (Below w1.heap.size w1 (w1.alloc (.cells #[.int .i64 0, .int .u64 0, .string ⟨#[]⟩, .slice none 0 0, .slice none 0 0] 28))) := Lib.hid ((Below.refl _ _).alloc (Nat.le_refl _) _)
        have HAS : Hid ((w1.alloc (.cells #[.int .i64 0, .int .u64 0, .string ⟨#[]⟩, .slice none 0 0, .slice none 0 0] 28)).heap.size = w1.heap.size + 1) := Lib.hid (by simp)
        have HAQ : Hid ((w1.alloc (.cells #[.int .i64 0, .int .u64 0, .string ⟨#[]⟩, .slice none 0 0, .slice none 0 0] 28)).heap[w1.heap.size]? = some (.cells #[.int .i64 0, .int .u64 0, .string ⟨#[]⟩, .slice none 0 0, .slice none 0 0] 28 (0, 0))) := Lib.hid (heap_alloc_new w1 _)
        have HLB : Hid (w.heap.size ≤ w1.heap.size) := Lib.hid (by have h1 := HN1.out.far; have h2 := lt_of_heap HN1.out.box; omega)
        clear hbx
        go_region_held3 (fun w' => w'.cell? ⟨w.heap.size, 0, none⟩ = some (.int .i64 c) ∧ w'.cell? ⟨w.heap.size, 1, none⟩ = some (.int .u64 0) ∧ w'.cell? ⟨w.heap.size, 2, none⟩ = some (.string ⟨#[]⟩) ∧ w'.cell? ⟨w.heap.size, 3, none⟩ = some (.slice D j d) ∧ w'.cell? ⟨w.heap.size, 4, none⟩ = some (.slice D' j d')) (first | with_reducible exact ⟨p0, p1, p2, p3, p4⟩ | with_reducible exact ⟨r0, r1, r2, r3, r4⟩ | with_reducible exact ⟨t0, t1, t2, t3, t4⟩ | (go_keep; done))
          (first
            | (go_at_call 17; refine (ref_any 9 9 false (by omega) (by omega) (by omega) (by omega) _).mono ?_; rintro e w' ⟨rfl, hw'⟩; replace hw' := hw'.symm; subst hw')
            | (go_at_call 19
               have hnx := HN1.out
               have WO := with_any c 0 ⟨#[]⟩ D d D' d' j xs ys b _ 9 9 false w1.drew HNL.out (by omega) rfl (by omega) (by omega) (by omega) (by omega) hnx.x.reads.drew hnx.y.reads.drew
               unfold nodeV at WO
               with_reducible refine WO.mono ?_
               clear WO
               rintro e wn ⟨kd9, wd9, pf9, Gn, gn, Hn, hn, m, zs, ks, rfl, hm1, hm2, hb1, him⟩
               rw [HOK.out]
               rw [HOK.out] at him
               unfold nodeV
               have HIM := Lib.hid him
               have hb2 : Below w1.heap.size w1 wn := ⟨hb1.os, hb1.tape, hb1.output, hb1.size, hb1.block⟩
               have hbn : Below w1.heap.size w1 wn := hb2
               have hh1 : wn.heap[w.heap.size]? = some (.cells #[.int .i64 c, .int .u64 0, .string ⟨#[]⟩, .slice D j d, .slice D' j d'] 28 (0, 0)) := (heap_below hbn (lt_of_heap HN1.out.box)).trans HN1.out.box
               have r0 := cell_of hh1 0
               have r1 := cell_of hh1 1
               have r2 := cell_of hh1 2
               have r3 := cell_of hh1 3
               have r4 := cell_of hh1 4
               have NW : NX (w.heap.size) wn.heap.size kd9 wd9 pf9 Gn gn Hn hn m zs ks _ := NX.new (kd := kd9) (wd := wd9) (pf := pf9) HLB.out hbn.size hm1 hm2
               have BZ := hbn.alloc hbn.size (.cells #[.int .i64 kd9, .int .u64 wd9, .string pf9, .slice Gn m gn, .slice Hn m hn] 28)
               obtain ⟨wz, hwz⟩ : ∃ wz, wn.alloc (.cells #[.int .i64 kd9, .int .u64 wd9, .string pf9, .slice Gn m gn, .slice Hn m hn] 28) = wz := ⟨_, rfl⟩
               rw [hwz] at NW BZ
               obtain ⟨q, hq⟩ : ∃ q, wn.heap.size = q := ⟨_, rfl⟩
               rw [hq] at NW
               have HWZ := Lib.hid hwz
               have HQE := Lib.hid hq
               have HNW := Lib.hid NW
               have HBZ := Lib.hid BZ
               clear hwz hq NW BZ hm1 hm2 hb1 hb2 hbn hh1 him hnx)
            | (go_at_call 19
               have hnx := HN1.out.keep HAL.out
               have WO := with_any c 0 ⟨#[]⟩ D d D' d' j xs ys b _ 9 9 false (w1.alloc (.cells #[.int .i64 0, .int .u64 0, .string ⟨#[]⟩, .slice none 0 0, .slice none 0 0] 28)).drew HNL.out (by omega) rfl (by omega) (by omega) (by omega) (by omega) hnx.x.reads.drew hnx.y.reads.drew
               unfold nodeV at WO
               with_reducible refine WO.mono ?_
               clear WO
               rintro e wn ⟨kd9, wd9, pf9, Gn, gn, Hn, hn, m, zs, ks, rfl, hm1, hm2, hb1, him⟩
               rw [HOK.out]
               rw [HOK.out] at him
               unfold nodeV
               have HIM := Lib.hid him
               have hb2 : Below (w1.alloc (.cells #[.int .i64 0, .int .u64 0, .string ⟨#[]⟩, .slice none 0 0, .slice none 0 0] 28)).heap.size (w1.alloc (.cells #[.int .i64 0, .int .u64 0, .string ⟨#[]⟩, .slice none 0 0, .slice none 0 0] 28)) wn := ⟨hb1.os, hb1.tape, hb1.output, hb1.size, hb1.block⟩
               have hbn : Below w1.heap.size w1 wn := HAL.out.trans (hb2.mono (by rw [HAS.out]; omega))
               have hh1 : wn.heap[w.heap.size]? = some (.cells #[.int .i64 c, .int .u64 0, .string ⟨#[]⟩, .slice D j d, .slice D' j d'] 28 (0, 0)) := (heap_below hbn (lt_of_heap HN1.out.box)).trans HN1.out.box
               have r0 := cell_of hh1 0
               have r1 := cell_of hh1 1
               have r2 := cell_of hh1 2
               have r3 := cell_of hh1 3
               have r4 := cell_of hh1 4
               have hq1 : wn.heap[w1.heap.size]? = some (.cells #[.int .i64 0, .int .u64 0, .string ⟨#[]⟩, .slice none 0 0, .slice none 0 0] 28 (0, 0)) := (heap_below hb2 (by rw [HAS.out]; omega)).trans HAQ.out
               have HQ1 := Lib.hid hq1
               have s0 := cell_of hq1 0
               have f0 := frozen_of hq1 0
               have s1 := cell_of hq1 1
               have f1 := frozen_of hq1 1
               have s2 := cell_of hq1 2
               have f2 := frozen_of hq1 2
               have s3 := cell_of hq1 3
               have f3 := frozen_of hq1 3
               have s4 := cell_of hq1 4
               have f4 := frozen_of hq1 4
               have hne : w.heap.size ≠ w1.heap.size := by have := lt_of_heap HN1.out.box; omega
               have ht1 : (((((wn.setCell ⟨w1.heap.size, 0, none⟩ (.int .i64 kd9)).setCell ⟨w1.heap.size, 1, none⟩ (.int .u64 wd9)).setCell ⟨w1.heap.size, 2, none⟩ (.string pf9)).setCell ⟨w1.heap.size, 3, none⟩ (.slice Gn m gn)).setCell ⟨w1.heap.size, 4, none⟩ (.slice Hn m hn)).heap[w.heap.size]? = some (.cells #[.int .i64 c, .int .u64 0, .string ⟨#[]⟩, .slice D j d, .slice D' j d'] 28 (0, 0)) := heap_far hne (heap_far hne (heap_far hne (heap_far hne (heap_far hne hh1))))
               have t0 := cell_of ht1 0
               have t1 := cell_of ht1 1
               have t2 := cell_of ht1 2
               have t3 := cell_of ht1 3
               have t4 := cell_of ht1 4
               have NW : NX (w.heap.size) w1.heap.size kd9 wd9 pf9 Gn gn Hn hn m zs ks (put5 wn w1.heap.size kd9 wd9 pf9 Gn gn Hn hn m) := NX.old (B := w.heap.size) (kd := kd9) (wd := wd9) (pf := pf9) HQ1.out HLB.out (by show w.heap.size ≤ (w1.alloc (.cells #[.int .i64 0, .int .u64 0, .string ⟨#[]⟩, .slice none 0 0, .slice none 0 0] 28)).heap.size; rw [HAS.out]; have := HLB.out; omega) hm1 hm2
               have BZ := put5_below (b := w1.heap.size) (kd := kd9) (wd := wd9) (pf := pf9) (G := Gn) (g := gn) (G' := Hn) (g' := hn) (m := m) hbn (Nat.le_refl _)
               clear ht1 hne hq1
               obtain ⟨wz, hwz⟩ : ∃ wz, put5 wn w1.heap.size kd9 wd9 pf9 Gn gn Hn hn m = wz := ⟨_, rfl⟩
               rw [hwz] at NW BZ
               unfold put5 at hwz
               obtain ⟨q, hq⟩ : ∃ q, w1.heap.size = q := ⟨_, rfl⟩
               rw [hq] at NW
               have HWZ := Lib.hid hwz
               have HQE := Lib.hid hq
               have HNW := Lib.hid NW
               have HBZ := Lib.hid BZ
               clear hwz hq NW BZ hm1 hm2 hb1 hb2 hbn hh1 him hnx))
        all_goals
          rw [HWZ.out, HQE.out]
          clear HIM
          go_wp2
          go_meet
          exact ⟨rfl, HBZ.out⟩
      obtain ⟨rfl, HZ⟩ := hcut
      rename World => w2
      have HN2 := Lib.hid (HN1.out.keep HZ.out)
      have HB2 := Lib.hid (HB1.out.trans (HZ.out.mono HB1.out.size))
      have hbx := HN2.out.box
      have p0 := cell_of hbx 0
      have p1 := cell_of hbx 1
      have p2 := cell_of hbx 2
      have p3 := cell_of hbx 3
      have p4 := cell_of hbx 4
      clear hbx HN1 HB1 HZ
      go_upto_region 13 with (first
        | (go_at_call 11; refine (turn_yes c 0 ⟨#[]⟩ D d D' d' j xs ys (c + 1) _ HNL.out (by omega) (by have := HUP.out; omega) (by have := HUP.out; omega) HN2.out.x.reads HN2.out.y.reads).mono ?_
           rintro e w3 ⟨v, rfl, G, g, G', g', rfl, hm1, hm2, hb3⟩
           unfold nodeV
           have hx3 := NX.new (kd := c + 1) (wd := 0) (pf := ⟨#[]⟩) HB2.out.size hb3.size hm1 hm2
           have hn3 := (HN2.out.keep hb3).keep ((Below.refl _ _).alloc (Nat.le_refl _) (.cells #[.int .i64 (c + 1), .int .u64 0, .string ⟨#[]⟩, .slice G j g, .slice G' j g'] 28))
           have hb4 := (HB2.out.trans (hb3.mono HB2.out.size)).alloc (by have := HB2.out.size; have := hb3.size; omega) (.cells #[.int .i64 (c + 1), .int .u64 0, .string ⟨#[]⟩, .slice G j g, .slice G' j g'] 28)
           obtain ⟨w4, hw4⟩ : ∃ w4, w3.alloc (.cells #[.int .i64 (c + 1), .int .u64 0, .string ⟨#[]⟩, .slice G j g, .slice G' j g'] 28) = w4 := ⟨_, rfl⟩
           obtain ⟨q3, hq3⟩ : ∃ q3, w3.heap.size = q3 := ⟨_, rfl⟩
           rw [hw4] at hx3 hn3 hb4
           rw [hq3] at hx3
           have HX3 := Lib.hid hx3
           have HN3 := Lib.hid hn3
           have HB3 := Lib.hid hb4
           have HW4 := Lib.hid hw4
           have HQ3 := Lib.hid hq3
           clear hm1 hm2 hb3 hx3 hn3 hb4 hw4 hq3)
        | fail)
      rw [HW4.out, HQ3.out]
      clear HW4 HQ3 p0 p1 p2 p3 p4 HN2 HB2 HOK
      have HOK : Hid ((isN b xs || decide ((j : Int) < highV (c + 1))) = true) := Lib.hid (by rw [decide_eq_true HUP.out]; simp)
      have HNM : Hid (NodeL (c + 1) 0 ⟨#[]⟩ xs ys j) := Lib.hid ⟨by have := HUP.out; omega, by have := HUP.out; omega, HNL.out.word, HNL.out.pref, HNL.out.asc, HNL.out.refs⟩
      go_cut [16, 17] from 68 to 75 (fun p ok wx => ok = .bool true ∧ Hid (Below w4.heap.size w4 wx))
      case first =>
        have hbx := HX3.out.box
        have p0 := cell_of hbx 0
        have p1 := cell_of hbx 1
        have p2 := cell_of hbx 2
        have p3 := cell_of hbx 3
        have p4 := cell_of hbx 4
        have HAL : Hid (Below w4.heap.size w4 (w4.alloc (.cells #[.int .i64 0, .int .u64 0, .string ⟨#[]⟩, .slice none 0 0, .slice none 0 0] 28))) := Lib.hid ((Below.refl _ _).alloc (Nat.le_refl _) _)
        have HAS : Hid ((w4.alloc (.cells #[.int .i64 0, .int .u64 0, .string ⟨#[]⟩, .slice none 0 0, .slice none 0 0] 28)).heap.size = w4.heap.size + 1) := Lib.hid (by simp)
        have HAQ : Hid ((w4.alloc (.cells #[.int .i64 0, .int .u64 0, .string ⟨#[]⟩, .slice none 0 0, .slice none 0 0] 28)).heap[w4.heap.size]? = some (.cells #[.int .i64 0, .int .u64 0, .string ⟨#[]⟩, .slice none 0 0, .slice none 0 0] 28 (0, 0))) := Lib.hid (heap_alloc_new w4 _)
        have HLB : Hid (w.heap.size ≤ w4.heap.size) := Lib.hid (by have h1 := HX3.out.far; have h2 := lt_of_heap HX3.out.box; omega)
        clear hbx
        go_region_held3 (fun w' => w'.cell? ⟨q3, 0, none⟩ = some (.int .i64 (c + 1)) ∧ w'.cell? ⟨q3, 1, none⟩ = some (.int .u64 0) ∧ w'.cell? ⟨q3, 2, none⟩ = some (.string ⟨#[]⟩) ∧ w'.cell? ⟨q3, 3, none⟩ = some (.slice G j g) ∧ w'.cell? ⟨q3, 4, none⟩ = some (.slice G' j g')) (first | with_reducible exact ⟨p0, p1, p2, p3, p4⟩ | with_reducible exact ⟨r0, r1, r2, r3, r4⟩ | with_reducible exact ⟨t0, t1, t2, t3, t4⟩ | (go_keep; done))
          (first
            | (go_at_call 17; refine (ref_any 9 9 false (by omega) (by omega) (by omega) (by omega) _).mono ?_; rintro e w' ⟨rfl, hw'⟩; replace hw' := hw'.symm; subst hw')
            | (go_at_call 19
               have hnx := HX3.out
               have WO := with_any (c + 1) 0 ⟨#[]⟩ G g G' g' j xs ys b _ 9 9 false w4.drew HNM.out (by omega) rfl (by omega) (by omega) (by omega) (by omega) hnx.x.reads.drew hnx.y.reads.drew
               unfold nodeV at WO
               with_reducible refine WO.mono ?_
               clear WO
               rintro e wn ⟨kd9, wd9, pf9, Gn, gn, Hn, hn, m, zs, ks, rfl, hm1, hm2, hb1, him⟩
               rw [HOK.out]
               rw [HOK.out] at him
               unfold nodeV
               replace him := him rfl
               have HIM := Lib.hid him
               have hb2 : Below w4.heap.size w4 wn := ⟨hb1.os, hb1.tape, hb1.output, hb1.size, hb1.block⟩
               have hbn : Below w4.heap.size w4 wn := hb2
               have hh1 : wn.heap[q3]? = some (.cells #[.int .i64 (c + 1), .int .u64 0, .string ⟨#[]⟩, .slice G j g, .slice G' j g'] 28 (0, 0)) := (heap_below hbn (lt_of_heap HX3.out.box)).trans HX3.out.box
               have r0 := cell_of hh1 0
               have r1 := cell_of hh1 1
               have r2 := cell_of hh1 2
               have r3 := cell_of hh1 3
               have r4 := cell_of hh1 4
               have NW : NX (w.heap.size) wn.heap.size kd9 wd9 pf9 Gn gn Hn hn m zs ks _ := NX.new (kd := kd9) (wd := wd9) (pf := pf9) HLB.out hbn.size hm1 hm2
               have BZ := hbn.alloc hbn.size (.cells #[.int .i64 kd9, .int .u64 wd9, .string pf9, .slice Gn m gn, .slice Hn m hn] 28)
               obtain ⟨wz, hwz⟩ : ∃ wz, wn.alloc (.cells #[.int .i64 kd9, .int .u64 wd9, .string pf9, .slice Gn m gn, .slice Hn m hn] 28) = wz := ⟨_, rfl⟩
               rw [hwz] at NW BZ
               obtain ⟨q, hq⟩ : ∃ q, wn.heap.size = q := ⟨_, rfl⟩
               rw [hq] at NW
               have HWZ := Lib.hid hwz
               have HQE := Lib.hid hq
               have HNW := Lib.hid NW
               have HBZ := Lib.hid BZ
               clear hwz hq NW BZ hm1 hm2 hb1 hb2 hbn hh1 him hnx)
            | (go_at_call 19
               have hnx := HX3.out.keep HAL.out
               have WO := with_any (c + 1) 0 ⟨#[]⟩ G g G' g' j xs ys b _ 9 9 false (w4.alloc (.cells #[.int .i64 0, .int .u64 0, .string ⟨#[]⟩, .slice none 0 0, .slice none 0 0] 28)).drew HNM.out (by omega) rfl (by omega) (by omega) (by omega) (by omega) hnx.x.reads.drew hnx.y.reads.drew
               unfold nodeV at WO
               with_reducible refine WO.mono ?_
               clear WO
               rintro e wn ⟨kd9, wd9, pf9, Gn, gn, Hn, hn, m, zs, ks, rfl, hm1, hm2, hb1, him⟩
               rw [HOK.out]
               rw [HOK.out] at him
               unfold nodeV
               replace him := him rfl
               have HIM := Lib.hid him
               have hb2 : Below (w4.alloc (.cells #[.int .i64 0, .int .u64 0, .string ⟨#[]⟩, .slice none 0 0, .slice none 0 0] 28)).heap.size (w4.alloc (.cells #[.int .i64 0, .int .u64 0, .string ⟨#[]⟩, .slice none 0 0, .slice none 0 0] 28)) wn := ⟨hb1.os, hb1.tape, hb1.output, hb1.size, hb1.block⟩
               have hbn : Below w4.heap.size w4 wn := HAL.out.trans (hb2.mono (by rw [HAS.out]; omega))
               have hh1 : wn.heap[q3]? = some (.cells #[.int .i64 (c + 1), .int .u64 0, .string ⟨#[]⟩, .slice G j g, .slice G' j g'] 28 (0, 0)) := (heap_below hbn (lt_of_heap HX3.out.box)).trans HX3.out.box
               have r0 := cell_of hh1 0
               have r1 := cell_of hh1 1
               have r2 := cell_of hh1 2
               have r3 := cell_of hh1 3
               have r4 := cell_of hh1 4
               have hq1 : wn.heap[w4.heap.size]? = some (.cells #[.int .i64 0, .int .u64 0, .string ⟨#[]⟩, .slice none 0 0, .slice none 0 0] 28 (0, 0)) := (heap_below hb2 (by rw [HAS.out]; omega)).trans HAQ.out
               have HQ1 := Lib.hid hq1
               have s0 := cell_of hq1 0
               have f0 := frozen_of hq1 0
               have s1 := cell_of hq1 1
               have f1 := frozen_of hq1 1
               have s2 := cell_of hq1 2
               have f2 := frozen_of hq1 2
               have s3 := cell_of hq1 3
               have f3 := frozen_of hq1 3
               have s4 := cell_of hq1 4
               have f4 := frozen_of hq1 4
               have hne : q3 ≠ w4.heap.size := by have := lt_of_heap HX3.out.box; omega
               have ht1 : (((((wn.setCell ⟨w4.heap.size, 0, none⟩ (.int .i64 kd9)).setCell ⟨w4.heap.size, 1, none⟩ (.int .u64 wd9)).setCell ⟨w4.heap.size, 2, none⟩ (.string pf9)).setCell ⟨w4.heap.size, 3, none⟩ (.slice Gn m gn)).setCell ⟨w4.heap.size, 4, none⟩ (.slice Hn m hn)).heap[q3]? = some (.cells #[.int .i64 (c + 1), .int .u64 0, .string ⟨#[]⟩, .slice G j g, .slice G' j g'] 28 (0, 0)) := heap_far hne (heap_far hne (heap_far hne (heap_far hne (heap_far hne hh1))))
               have t0 := cell_of ht1 0
               have t1 := cell_of ht1 1
               have t2 := cell_of ht1 2
               have t3 := cell_of ht1 3
               have t4 := cell_of ht1 4
               have NW : NX (w.heap.size) w4.heap.size kd9 wd9 pf9 Gn gn Hn hn m zs ks (put5 wn w4.heap.size kd9 wd9 pf9 Gn gn Hn hn m) := NX.old (B := w.heap.size) (kd := kd9) (wd := wd9) (pf := pf9) HQ1.out HLB.out (by show w.heap.size ≤ (w4.alloc (.cells #[.int .i64 0, .int .u64 0, .string ⟨#[]⟩, .slice none 0 0, .slice none 0 0] 28)).heap.size; rw [HAS.out]; have := HLB.out; omega) hm1 hm2
               have BZ := put5_below (b := w4.heap.size) (kd := kd9) (wd := wd9) (pf := pf9) (G := Gn) (g := gn) (G' := Hn) (g' := hn) (m := m) hbn (Nat.le_refl _)
               clear ht1 hne hq1
               obtain ⟨wz, hwz⟩ : ∃ wz, put5 wn w4.heap.size kd9 wd9 pf9 Gn gn Hn hn m = wz := ⟨_, rfl⟩
               rw [hwz] at NW BZ
               unfold put5 at hwz
               obtain ⟨q, hq⟩ : ∃ q, w4.heap.size = q := ⟨_, rfl⟩
               rw [hq] at NW
               have HWZ := Lib.hid hwz
               have HQE := Lib.hid hq
               have HNW := Lib.hid NW
               have HBZ := Lib.hid BZ
               clear hwz hq NW BZ hm1 hm2 hb1 hb2 hbn hh1 him hnx))
        all_goals
          rw [HWZ.out, HQE.out]
          clear HIM
          go_wp2
          go_meet
          exact ⟨rfl, HBZ.out⟩
      obtain ⟨rfl, HZ⟩ := hcut
      rename World => w5
      have HN5 := Lib.hid (HN3.out.keep HZ.out)
      have HB5 := Lib.hid (HB3.out.trans (HZ.out.mono HB3.out.size))
      have hbx := HN5.out.box
      have p0 := cell_of hbx 0
      have p1 := cell_of hbx 1
      have p2 := cell_of hbx 2
      have p3 := cell_of hbx 3
      have p4 := cell_of hbx 4
      clear hbx HN3 HB3 HZ HX3
      go_upto_region 15 with (first
        | (go_at_call 11; refine (turn_no c 0 ⟨#[]⟩ D d D' d' j xs ys (c - 1) _ HNL.out (by omega) HDN.out HN5.out.x.reads HN5.out.y.reads).mono ?_
           rintro e w6 ⟨rfl, hb6⟩
           unfold nodeV
           have hn6 := (HN5.out.keep hb6).keep ((Below.refl _ _).alloc (Nat.le_refl _) (.cells #[.int .i64 0, .int .u64 0, .string ⟨#[]⟩, .slice none 0 0, .slice none 0 0] 28))
           have hb7 := (HB5.out.trans (hb6.mono HB5.out.size)).alloc (by have := HB5.out.size; have := hb6.size; omega) (.cells #[.int .i64 0, .int .u64 0, .string ⟨#[]⟩, .slice none 0 0, .slice none 0 0] 28)
           obtain ⟨w7, hw7⟩ : ∃ w7, w6.alloc (.cells #[.int .i64 0, .int .u64 0, .string ⟨#[]⟩, .slice none 0 0, .slice none 0 0] 28) = w7 := ⟨_, rfl⟩
           rw [hw7] at hn6 hb7
           have HN6 := Lib.hid hn6
           have HB7 := Lib.hid hb7
           have HW7 := Lib.hid hw7
           clear hb6 hn6 hb7 hw7)
        | fail)
      rw [HW7.out]
      clear HW7 p0 p1 p2 p3 p4 HN5 HB5 HOK
      have hTT : (T == T) = true := by simp
      have HLT : Hid (w.heap.size < w7.heap.size) := Lib.hid (lt_of_heap HN6.out.box)
      refine wp_region_cls (S := w7.heap.size) (by kernel_rfl) (by kernel_rfl) (Nat.le_refl _) ?_
      repeat
        (refine wpQuiet_step (fun K hK => ?_)
         first
           | (refine cls_no (not_of_false ?_) ?_
              focus (go_simp; done)
              go_simp
              refine hK _ ?_; clear hK K)
           | (refine cls_yes ?_ ?_
              focus (go_simp; done)
              apply Exists.intro
              refine ⟨fun wc hc => ?_, ?_⟩
              focus
                have k3 := hc.cell (b := w.heap.size) HLT.out 3 _ (cell_of HN6.out.box 3)
                have k0 := hc.cell (b := w.heap.size) HLT.out 0 _ (cell_of HN6.out.box 0)
                go_simp
                first
                  | done
                  | (go_at_call 12; exact (high_any c wc).mono fun e w' ⟨h1, h2⟩ => ⟨by rw [h1, HH.out], h2 ▸ hc⟩)
                  | (go_at_call 13; exact (runs_any wc).mono fun e w' ⟨h1, h2⟩ => ⟨h1, hc.next h2⟩)
                  | rfl
              go_simp
              refine hK _ ?_; clear hK K)
           | fail)
      refine wpQuiet_nil ?_
      intro w9 hc9
      have HC9 := Lib.hid hc9
      clear hc9
      go_wp2
      go_ret
      exact ⟨rfl, HB7.out.trans (HC9.out.2.mono HB7.out.size)⟩
end Go.Proofs.Ytononinmjijhoaa
