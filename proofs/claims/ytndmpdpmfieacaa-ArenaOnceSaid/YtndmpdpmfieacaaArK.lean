/-
  ArenaOnce at any class and any asks; conditions: lengths.
-/
import Derived.Test.YtndmpdpmfieacaaArQ
import Derived.Deep.CutBlock
import Derived.Deep.CutRange
namespace Go.Proofs.Ytndmpdpmfieacaa
open Go.RowKit Go.WideShapes Go.ChangeShapes
set_option linter.all false
set_option maxRecDepth 100000 in
set_option maxHeartbeats 12800000 in
theorem once_any (a : Int) (A' : Option Addr) (n' c' : Nat) (F : Nat → Nat → Int) (w : World) (r' : Asks w A' n' F) : Calls Try.prog 6 #[.int .i64 a, .slice A' n' c'] w fun e w' => e = .returned (.bool true) ∧ Below w.heap.size w w' := by
  have HR' := Lib.hid r'
  clear r'
  obtain ⟨c, hc, hc5⟩ := withinV_nat a 5 (by omega)
  have HWC : Hid (∀ W, Calls Try.prog 21 #[.int .i64 a, .int .i64 0, .int .i64 4] W fun e w' => e = .returned (.int .i64 (c : Nat)) ∧ W = w') := Lib.hid (fun W => by
    have := within_any a 4 (by omega) (by omega) W
    rw [show ((4 : Int) + 1) = ((5 : Nat) : Int) from rfl, hc] at this
    exact this)
  obtain ⟨n, hn⟩ : ∃ n, n = szN c := ⟨_, rfl⟩
  have hn8 : 8 ≤ n := by rw [hn]; exact szN_pos hc5
  have hn9 : n ≤ 264 := by rw [hn]; exact szN_le c
  obtain ⟨f, hf⟩ : ∃ f : Nat → Int, f = up (fun _ => 0) c 4 := ⟨_, rfl⟩
  have hsum := Fr.four hc5
  have HNEW : Hid (∀ W, Calls Try.prog 13 #[.agg #[.int .i64 (f 0), .int .i64 (f 1), .int .i64 (f 2), .int .i64 (f 3), .int .i64 (f 4)]] W fun e w' => ∃ B S sl P I V xs, e = .returned (.tuple #[.pointer (some ⟨B, 0, none⟩), .int .i64 0]) ∧ LA W.heap.size B S 4 4 c 1 4 (fun _ => false) (fun _ => 1) sl P I V xs w' ∧ Below W.heap.size W w') := Lib.hid (fun W => by
    have := arena_new (fun i => if i = c then 4 else 0) (by omega) W
    rw [hsum] at this
    have he : (Value.agg #[.int .i64 (f 0), .int .i64 (f 1), .int .i64 (f 2), .int .i64 (f 3), .int .i64 (f 4)]) = nsV (fun i => if i = c then 4 else 0) := by
      have : f = fun i => ((if i = c then 4 else 0 : Nat) : Int) := by
        rw [hf]; funext i; unfold up; split <;> rfl
      rw [this]; rfl
    rw [he]
    refine this.mono ?_
    rintro e w' ⟨B, S, sl, P, I, V, xs, rfl, ha, hb, hf⟩
    exact ⟨B, S, sl, P, I, V, xs, rfl, hf.la hc5 (by omega) ha, hb⟩)
  have HF := Lib.hid hf
  have HNC := Lib.hid hn
  have c0 : (0 : Int) ≤ c := by omega
  have c5 : (c : Int) < 5 := by omega
  obtain ⟨i3, hi3, z3a, z3b, z3c⟩ := info_parts info3
  obtain ⟨i5, hi5, z5a, z5b, z5c⟩ := info_parts info35b
  clear hc hf hsum hn
  go_enter Try.func6, Try.ntmps6
  go_upto_region 3 with (first
    | (go_at_call 21; refine (HWC.out _).mono ?_; rintro e w9 ⟨rfl, hh⟩; subst w9)
    | fail)
  obtain ⟨g, hg⟩ : ∃ g, g = w.heap.size := ⟨_, rfl⟩
  obtain ⟨W1, hW1⟩ : ∃ W1 : World, W1 = w.alloc (.cells #[.int .i64 0, .int .i64 0, .int .i64 0, .int .i64 0, .int .i64 0] 22) := ⟨_, rfl⟩
  have h1 : W1.heap[g]? = some (.cells (five fun _ => 0) 22 (0, 0)) := by rw [hW1, hg]; exact heap_alloc_new w _
  have b1 : Below w.heap.size w W1 := by rw [hW1]; exact below_alloc w _
  have d0 : W1.cell? ⟨g, c, none⟩ = some (.int .i64 0) := (cell_of h1 c).trans (five_at _ hc5)
  have f0 := frozen_of h1 c
  have h2 := heap_setCell_same W1 g c _ 22 (.int .i64 4) h1
  rw [five_set _ hc5] at h2
  have b2 := b1.setCell (p := ⟨g, c, none⟩) (Nat.le_of_eq hg.symm) (.int .i64 4)
  rw [← hW1, ← hg]
  clear hW1 hg
  go_upto_region 4 with (fail)
  obtain ⟨W2, hW2⟩ : ∃ W2 : World, W2 = W1.setCell ⟨g, c, none⟩ (.int .i64 4) := ⟨_, rfl⟩
  rw [← hW2] at h2 b2 ⊢
  rw [← HF.out] at h2
  clear hW2 d0 f0 h1 b1
  have d0 := (cell_of h2 0).trans (five_at _ (by decide : 0 < 5))
  have d1 := (cell_of h2 1).trans (five_at _ (by decide : 1 < 5))
  have d2 := (cell_of h2 2).trans (five_at _ (by decide : 2 < 5))
  have d3 := (cell_of h2 3).trans (five_at _ (by decide : 3 < 5))
  have d4 := (cell_of h2 4).trans (five_at _ (by decide : 4 < 5))
  have HB2 := Lib.hid b2
  clear h2 b2
  go_upto_region 5 with (first
    | (go_at_call 13; refine (HNEW.out _).mono ?_; rintro e w3 ⟨B, S, sl, P, I, V, xs, rfl, hla, hb3⟩
       have HLA := Lib.hid hla
       have HB3 := Lib.hid (HB2.out.trans (hb3.mono HB2.out.size))
       have HS3 := Lib.hid hb3.size
       clear hla hb3)
    | fail)
  clear d0 d1 d2 d3 d4 HNEW
  obtain ⟨N, hN⟩ : ∃ N, N = W2.heap.size := ⟨_, rfl⟩
  rw [← hN] at HLA HS3
  have HNW : Hid (w.heap.size ≤ N) := Lib.hid (by rw [hN]; exact HB2.out.size)
  have HO0 : Hid (OS w N B S c P I (1 + 0) 0 0 (.slice none 0 0) (.slice none 0 0) (.slice none 0 0) w3) := Lib.hid ⟨_, _, sl, V, xs, [], [], [], HLA.out, ⟨Rk.nil _ _ _ _ _, Rk.nil _ _ _ _ _, Rk.nil _ _ _ _ _, (fun g hg => by cases hg), HB3.out, HLA.out.footN.2, HNW.out, HS3.out⟩, ⟨List.nodup_nil, (fun i hi => by cases hi), (fun i hi => by simp), rfl, (fun k hk => absurd hk (by simp)), (fun e he => by cases he), (fun y hy => by cases hy)⟩, rfl, Nat.zero_le _⟩
  clear HLA sl V xs HB3 HS3 hN HB2
  go_wp2
  go_loopw [9, 10, 11, 12] (fun vr vg vv i W => ∃ (j m q : Nat) (VR VG VV : Value), i = .int .i64 j ∧ j ≤ n' ∧ j ≤ 60 ∧ m ≤ 4 ∧ q ≤ j ∧ VR = vr ∧ VG = vg ∧ VV = vv ∧ Hid (OS w N B S c P I (1 + j) m q VR VG VV W)) (fun _ _ _ i _ => 60 - (intOf i).toNat)
  case atStart => exact ⟨0, 0, 0, _, _, _, rfl, Nat.zero_le _, Nat.zero_le _, Nat.zero_le _, Nat.zero_le _, rfl, rfl, rfl, HO0⟩
  case round =>
    clear HO0
    obtain ⟨j, m, q, VR, VG, VV, rfl, hj, hj6, hm4, hqj, hVR, hVG, hVV, HOS⟩ := hrel
    subst hVR hVG hVV
    have j0 : (0 : Int) ≤ j := by omega
    by_cases hlt : j < n' ∧ j < 60
    · obtain ⟨hl1, hl2⟩ := hlt
      obtain ⟨adq, rfl, hbl', q0, q3, q4⟩ := HR'.out j hl1
      have hBW : Below w.heap.size w wr := by obtain ⟨_, _, _, _, _, _, _, _, _, ho, _⟩ := HOS.out; exact ho.bel
      have HBW := Lib.hid hBW
      have f0 : wr.cell? (adq.add (j * 7)) = some (.int .i64 (F j 0)) := (hBW.cell (p := adq.add (j * 7)) (by rw [block_of_add]; exact hbl')).trans q0
      have f3 : wr.cell? ⟨(adq.add (j * 7)).block, (adq.add (j * 7)).off + 3, none⟩ = some (.int .i64 (F j 3)) := by
        have e2 : (⟨(adq.add (j * 7)).block, (adq.add (j * 7)).off + 3, none⟩ : Addr) = (adq.add (j * 7)).add 3 := rfl
        rw [e2, add_of_add]; exact (hBW.cell (p := adq.add (j * 7 + 3)) (by rw [block_of_add]; exact hbl')).trans q3
      have f4 : wr.cell? ⟨(adq.add (j * 7)).block, (adq.add (j * 7)).off + 4, none⟩ = some (.int .u64 (F j 4)) := by
        have e2 : (⟨(adq.add (j * 7)).block, (adq.add (j * 7)).off + 4, none⟩ : Addr) = (adq.add (j * 7)).add 4 := rfl
        rw [e2, add_of_add]; exact (hBW.cell (p := adq.add (j * 7 + 4)) (by rw [block_of_add]; exact hbl')).trans q4
      generalize F j 0 = kd at *
      generalize F j 3 = rf at *
      generalize F j 4 = was at *
      have HF4 := Lib.hid f4
      clear q0 q3 q4 hBW
      obtain ⟨kk, hkk, hk3⟩ := withinV_nat kd 3 (by omega)
      have HWK : Hid (∀ W, Calls Try.prog 21 #[.int .i64 kd, .int .i64 0, .int .i64 2] W fun e w' => e = .returned (.int .i64 (kk : Nat)) ∧ W = w') := Lib.hid (fun W => by
        have := within_any kd 2 (by omega) (by omega) W
        rw [show ((2 : Int) + 1) = ((3 : Nat) : Int) from rfl, hkk] at this
        exact this)
      clear hkk
      obtain ⟨AR, cr, er⟩ : ∃ A c, VR = .slice A m c := by obtain ⟨_, _, _, _, _, _, _, _, _, ho, _⟩ := HOS.out; exact ho.rr.mid.form
      obtain ⟨AG, cg, eg⟩ : ∃ A c, VG = .slice A q c := by obtain ⟨_, _, _, _, _, _, _, _, _, ho, _⟩ := HOS.out; exact ho.rg.mid.form
      obtain ⟨AV, cv, ev⟩ : ∃ A c, VV = .slice A m c := by obtain ⟨_, _, _, _, _, _, _, _, _, ho, _⟩ := HOS.out; exact ho.rv.mid.form
      subst er eg ev
      go_upto_block 2 with (first
        | (go_at_call 21; refine (HWK.out _).mono ?_; rintro e w9 ⟨rfl, hh⟩; subst w9)
        | fail)
      clear HWK f0
      go_cut [9, 10, 11, 13, 14, 16, 17, 18, 19, 20] from 60 to 203 (fun vr vg vv y13 y14 y16 y17 y18 y19 y20 wx => ∃ (M Q : Nat) (VR VG VV : Value), VR = vr ∧ VG = vg ∧ VV = vv ∧ M ≤ 4 ∧ Q ≤ j + 1 ∧ Hid (OS w N B S c P I (1 + (j + 1)) M Q VR VG VV wx))
      case first =>
        have hkc : kk = 0 ∨ kk = 1 ∨ kk = 2 := by omega
        rcases hkc with rfl | rfl | rfl
        · as_aux_lemma =>
            have hcv : IntKind.u64.wrap ((j : Nat) : Int) = (j : Nat) := by rw [IntKind.wrap_u64]; omega
            have hbl := below_alloc wr (.cells #[.int .u64 (j : Nat)] 35)
            have hnew := heap_alloc_new wr (.cells #[.int .u64 (j : Nat)] 35)
            by_cases hm : m < 4
            · have hmi : (m : Int) < 4 := by omega
              have hal := HOS.out.alloc hbl hc5 hm (by omega) (x := (j : Nat)) (by omega) (g := wr.heap.size) hnew (Nat.le_refl _)
              have HAL := Lib.hid hal
              clear hal hbl hnew
              go_upto_region 15 with (first
                | (go_at_call 23; refine HAL.out.mono ?_; rintro e w5 ⟨r, rfl, hosa⟩
                   have HOA := Lib.hid hosa
                   clear hosa)
                | fail)
              obtain ⟨lv, gs, sl, V, xs, ps, vs, gn, i0, hla, hor, hgi, hpl, hm9, hr, hne⟩ := HOA.out
              have HLA := Lib.hid hla
              have HOR := Lib.hid hor
              have HGI := Lib.hid hgi
              have HPL := Lib.hid hpl
              have HRR := Lib.hid hr
              have HNE := Lib.hid hne
              clear hla hor hgi hpl hr hne HOA HAL
              go_wp2
              go_loopw [81] (fun i W => ∃ z : Nat, i = .int .i64 z ∧ z ≤ m ∧ Hid (Below w5.heap.size w5 W)) (fun i _ => m - (intOf i).toNat)
              case atStart => exact ⟨0, rfl, Nat.zero_le _, Lib.hid (Below.refl _ _)⟩
              case round =>
                obtain ⟨z, rfl, hz, HBZ⟩ := hrel
                have z0 : (0 : Int) ≤ z := by omega
                have HO2 := Lib.hid (HOR.out.on HBZ.out)
                by_cases hzm : z < m
                · have z1 : (z : Int) < m := by omega
                  obtain ⟨adr, er, d1⟩ := HO2.out.rr.get hzm
                  cases er
                  obtain ⟨y, hy⟩ : ∃ y, y = (refs ps gs c).getD z 0 := ⟨_, rfl⟩
                  have hyr : (y == r) = false := by
                    have hl : (refs ps gs c).length = m := HO2.out.rr.len
                    have : y ∈ refs ps gs c := by
                      rw [hy, List.getD_eq_getElem?_getD, List.getElem?_eq_getElem (by omega)]
                      exact List.getElem_mem (by omega)
                    simpa using HNE.out y this
                  rw [← hy] at d1
                  clear hy
                  go_wp2
                  refine ⟨?rel, ?measure⟩
                  case rel => exact ⟨z + 1, by go_num, by omega, HBZ⟩
                  case measure => simp only [intOf]; omega
                · obtain rfl : m = z := by omega
                  have hm10 : m ≤ 10 := by omega
                  go_wp2_with (first
                    | (refine wpList_append_mid rfl (.tmp 89) (.tmp 91) 45 rfl N 3 i3 _ 1 8 Try.underlying45 hi3 z3a z3b z3c rfl (by omega) (.slice AR m cr) m (ks .i64 (refs ps gs c)) rfl (HO2.out.rr.mid.onb (below_alloc _ _)) ⟨_, 0, none⟩ 1 1 [.int .i64 r] rfl rfl (World.news_of_block (cs := #[.int .i64 r]) (t := 3) (fr := (0, 0)) (heap_alloc_new _ _)) (by simp [Value.oneCell']) (by unfold maxLen; omega) (by omega) (by have := HO2.out.NW; simp; omega) ?_
                       intro VR2 w6 hmx hrx
                       have HMX := Lib.hid hmx
                       have HRX := Lib.hid hrx
                       clear hmx hrx)
                    | (refine wpList_append_mid rfl (.tmp 93) (.tmp 96) 30 rfl N 35 i5 _ 1 8 Try.underlying30 hi5 z5a z5b z5c rfl (by omega) (.slice AV m cv) m (ks .u64 vs) rfl (HO2.out.mid2 _ HRX.out).1 ⟨_, 0, none⟩ 1 1 [.int .u64 (j : Nat)] rfl rfl (World.news_of_block (cs := #[.int .u64 (j : Nat)]) (t := 35) (fr := (0, 0)) (heap_alloc_new _ _)) (by simp [Value.oneCell']) (by unfold maxLen; omega) (by omega) (HO2.out.mid2 _ HRX.out).2 ?_
                       intro VV2 w7 hmy hry
                       have HPU := Lib.hid (HO2.out.push HMX.out HRX.out hmy hry)
                       clear hmy hry HMX HRX)
                    | fail)
                  obtain ⟨m2, hm2⟩ : ∃ m2, m2 = m + 1 := ⟨_, rfl⟩
                  have HOT : Hid (OS w N B S c P I (1 + (j + 1)) m2 q VR2 (.slice AG q cg) VV2 w7) := Lib.hid (by
                    rw [hm2]
                    refine OS.more ⟨lv, gs, sl, V, xs, ps ++ [i0], vs ++ [((j : Nat) : Int)], gn, (HLA.out.on HBZ.out).same HPU.out.2, ?_, HGI.out, by rw [List.length_append, HPL.out]; rfl, by omega⟩
                    have := HPU.out.1
                    rw [HRR.out] at this
                    have e : refs (ps ++ [i0]) gs c = refs ps gs c ++ [refV (i0 : Nat) (gs i0 : Nat) (((c : Nat) : Int) == 0)] := by unfold refs; rw [List.map_append]; rfl
                    rw [e]; exact this)
                  have hm24 : m2 ≤ 4 := by omega
                  clear hm2
                  obtain ⟨AR2, cr2, er⟩ : ∃ A c, VR2 = .slice A m2 c := by obtain ⟨_, _, _, _, _, _, _, _, _, ho, _⟩ := HOT.out; exact ho.rr.mid.form
                  obtain ⟨AV2, cv2, ev⟩ : ∃ A c, VV2 = .slice A m2 c := by obtain ⟨_, _, _, _, _, _, _, _, _, ho, _⟩ := HOT.out; exact ho.rv.mid.form
                  subst er ev
                  go_meet
                  exact ⟨m2, q, _, _, _, rfl, rfl, rfl, by omega, by omega, HOT⟩
            · have hmi : ¬ ((m : Int) < 4) := by omega
              have HFU : Hid (Calls Try.prog 23 #[.pointer (some ⟨B, 0, none⟩), .int .i64 (c : Nat), .slice (some ⟨wr.heap.size, 0, none⟩) 1 1] (wr.alloc (.cells #[.int .u64 (j : Nat)] 35)) fun e w' => e = .returned (.tuple #[.int .i64 0, .int .i64 2]) ∧ w' = wr.alloc (.cells #[.int .u64 (j : Nat)] 35)) := Lib.hid (by
                obtain ⟨lv, gs, sl, V, xs, ps, vs, gn, hla, -, -, -, -⟩ := HOS.out
                exact alloc_full (hla.ar.on hbl) c _ 1 1 hc5 (by rw [← HNC.out]; omega) (List.eq_nil_of_length_eq_zero (by rw [hla.cnt]; omega)))
              have HOT : Hid (OS w N B S c P I (1 + (j + 1)) m q (.slice AR m cr) (.slice AG q cg) (.slice AV m cv) (wr.alloc (.cells #[.int .u64 (j : Nat)] 35))) := Lib.hid (HOS.out.on hbl).more
              obtain ⟨w5, hw5⟩ : ∃ w5 : World, w5 = wr.alloc (.cells #[.int .u64 (j : Nat)] 35) := ⟨_, rfl⟩
              have HW5 := Lib.hid hw5
              rw [← hw5] at HFU HOT
              have hszc : 1 ≤ n := by omega
              clear hbl hnew hw5
              go_upto_region 14 with (fail)
              go_wp2_with (first
                | (go_at_call 23; rw [← HW5.out]; refine HFU.out.mono ?_; rintro e w9 ⟨rfl, hh⟩; subst w9)
                | fail)
              go_meet
              exact ⟨m, q, _, _, _, rfl, rfl, rfl, by omega, by omega, HOT⟩
        · as_aux_lemma =>
            by_cases hm0 : 0 < m
            · have hmi : (0 : Int) < m := by omega
              obtain ⟨k, hkk, hkm⟩ := withinV_nat rf m (by omega)
              have HWR : Hid (∀ W, Calls Try.prog 21 #[.int .i64 rf, .int .i64 0, .int .i64 ((m : Nat) - 1)] W fun e w' => e = .returned (.int .i64 (k : Nat)) ∧ W = w') := Lib.hid (fun W => by
                have := within_any rf ((m : Nat) - 1) (by omega) (by omega) W
                rw [show ((m : Nat) : Int) - 1 + 1 = ((m : Nat) : Int) from by omega, hkk] at this
                exact this)
              clear hkk
              go_upto_region 28 with (first
                | (go_at_call 21; refine (HWR.out _).mono ?_; rintro e w9 ⟨rfl, hh⟩; subst w9)
                | fail)
              obtain ⟨lv, gs, sl, V, xs, ps, vs, gn, hla, hor, hgi, hpl, hm9⟩ := HOS.out
              obtain ⟨i, hi⟩ : ∃ i, i = ps.getD k 0 := ⟨_, rfl⟩
              have hkp : k < ps.length := by omega
              have hip : i ∈ ps := by rw [hi]; exact getD_memN hkp
              have hi4 := hgi.lt i hip
              have hlv := (hgi.lv i hi4).2 hip
              have hgen : 1 ≤ gs i ∧ gs i ≤ 1000 := by
                have := hla.ok.gen i (by rw [hla.len]; exact hi4)
                rw [(hla.all i hi4).2.1] at this; omega
              obtain ⟨adr, er, d1⟩ := hor.rr.get hkm
              cases er
              obtain ⟨adv, ev, d2⟩ := hor.rv.get hkm
              cases ev
              clear d2
              rw [refs_get hkp, ← hi] at d1
              obtain ⟨ref, href⟩ : ∃ ref, ref = refV (i : Nat) (gs i : Nat) (((c : Nat) : Int) == 0) := ⟨_, rfl⟩
              rw [← href] at d1
              have HFR := Lib.hid (hla.freed hc5 (by omega) (Nat.le_refl _) (by omega) (by omega) hi4 hlv)
              rw [← href] at HFR
              have HLA := Lib.hid hla
              have HOR := Lib.hid hor
              have HGI := Lib.hid hgi
              have HPL := Lib.hid hpl
              have HI := Lib.hid hi
              have HRE := Lib.hid href
              have HGE := Lib.hid hgen
              clear hla hor hgi hpl hi hlv hip href hgen
              go_upto_region 30 with (first
                | (go_at_call 18; refine HFR.out.mono ?_; rintro e w5 ⟨rfl, sl', V', xs', hla, hmv, hsl⟩
                   have HL5 := Lib.hid hla
                   have HO3 := Lib.hid (HOR.out.mv hmv HLA.out.footN.1 hla.footN.2)
                   have HSL := Lib.hid hsl
                   clear hla hmv hsl)
                | fail)
              clear HFR d1
              obtain ⟨adr2, er, d1⟩ := HO3.out.rr.get hkm
              cases er
              rw [refs_get (by rw [HPL.out]; exact hkm), ← HI.out, ← HRE.out] at d1
              go_upto_region 31 with (first
                | (refine wpList_append_mid rfl (.tmp 119) (.tmp 124) 45 rfl N 3 i3 _ 1 8 Try.underlying45 hi3 z3a z3b z3c rfl (by omega) (.slice AG q cg) q (ks .i64 (gns gn c)) rfl (HO3.out.rg.mid.onb (below_alloc _ _)) ⟨_, 0, none⟩ 1 1 [.int .i64 ref] rfl rfl (World.news_of_block (cs := #[.int .i64 ref]) (t := 3) (fr := (0, 0)) (heap_alloc_new _ _)) (by simp [Value.oneCell']) (by unfold maxLen; omega) (by omega) (by have := HO3.out.NW; simp; omega) ?_
                   intro VG2 w6 hmx hrx
                   have HGO := Lib.hid (HO3.out.gone hmx hrx)
                   clear hmx hrx)
                | fail)
              clear d1
              obtain ⟨m2, hm2⟩ : ∃ m2, m2 + 1 = m := ⟨m - 1, by omega⟩
              have hm24 : m2 ≤ 4 := by omega
              obtain ⟨AG2, cg2, eg⟩ : ∃ A c, VG2 = .slice A (q + 1) c := HGO.out.1.rg.mid.form
              subst eg
              obtain ⟨q1, hq1⟩ : ∃ q1, q1 = q + 1 := ⟨_, rfl⟩
              rw [← hq1] at HGO
              try simp only [← hq1]
              try simp only [List.append_eq, List.cons_append, List.nil_append]
              refine reg31 (k := k) (xs := refs ps gs c) HGO.out.1.rr.mid hkm (by omega) hm2 (by intro _ _ _ _ _ h; exact h) ?_
              intro v126 v127 v128 v129 v130 v131 v132 v133 v134 v135 A2 c2 w7 hb7 hmr
              have HB7 := Lib.hid hb7
              have HMR := Lib.hid hmr
              clear hb7 hmr
              go_upto_region 32 with (fail)
              try simp only [List.append_eq, List.cons_append, List.nil_append]
              refine reg32 (k := k) (xs := vs) (HGO.out.1.rv.mid.onb HB7.out) hkm (by omega) hm2 (by intro _ _ _ _ _ h; exact h) ?_
              intro v136 v137 v138 v139 v140 v141 v142 v143 v144 v145 A3 c3 w8 hb8 hmv
              go_wp2
              have HOT : Hid (OS w N B S c P I (1 + (j + 1)) m2 q1 (.slice A2 m2 c2) (.slice AG2 q1 cg2) (.slice A3 m2 c3) w8) := Lib.hid (by
                have hge := HGE.out
                obtain ⟨f1, f2⟩ := HGI.out.freed (c := c) (sl' := sl') (k := k) (i := i) (by rw [HPL.out]; exact hkm) HI.out (fun y hy => by rw [HSL.out, getD_set (by rw [HLA.out.len]; exact hi4), if_neg hy]) hge.1
                refine ⟨_, _, sl', V', xs', _, _, _, ?_, ?_, f1, ?_, hm24⟩
                · have h5 := ((HL5.out.same HGO.out.2).on HB7.out).on hb8
                  rw [show 4 - m + 1 = 4 - m2 from by omega] at h5
                  exact h5
                · have h6 := HGO.out.1.erased HB7.out HMR.out hb8 hmv
                  rw [f2]
                  have e : gns (gn ++ [(i, gs i)]) c = gns gn c ++ [ref] := by rw [HRE.out]; unfold gns; rw [List.map_append]; rfl
                  rw [e]; exact h6
                · rw [List.length_eraseIdx, HPL.out, if_pos hkm]; omega)
              clear HLA HOR HGI HPL HI HRE HGE HL5 HO3 HSL HGO HB7 HMR hb8 hmv hm2 hkm hkp hmi HWR
              go_meet
              exact ⟨m2, q1, _, _, _, rfl, rfl, rfl, by omega, by omega, HOT⟩
            · have hmz : ¬ ((0 : Int) < m) := by omega
              have HOT := Lib.hid HOS.out.more
              rw [show 1 + j + 1 = 1 + (j + 1) from rfl] at HOT
              obtain rfl : m = 0 := by omega
              go_wp2
              go_meet
              exact ⟨0, q, _, _, _, rfl, rfl, rfl, by omega, by omega, HOT⟩
        · as_aux_lemma =>
            by_cases hm0 : 0 < m
            · have hmi : (0 : Int) < m := by omega
              obtain ⟨k, hkk, hkm⟩ := withinV_nat rf m (by omega)
              have HWR : Hid (∀ W, Calls Try.prog 21 #[.int .i64 rf, .int .i64 0, .int .i64 ((m : Nat) - 1)] W fun e w' => e = .returned (.int .i64 (k : Nat)) ∧ W = w') := Lib.hid (fun W => by
                have := within_any rf ((m : Nat) - 1) (by omega) (by omega) W
                rw [show ((m : Nat) : Int) - 1 + 1 = ((m : Nat) : Int) from by omega, hkk] at this
                exact this)
              clear hkk
              go_upto_region 36 with (first
                | (go_at_call 21; refine (HWR.out _).mono ?_; rintro e w9 ⟨rfl, hh⟩; subst w9)
                | fail)
              clear f3 f4 HWR
              obtain ⟨lv, gs, sl, V, xs, ps, vs, gn, hla, hor, hgi, hpl, hm9⟩ := HOS.out
              obtain ⟨i, hi⟩ : ∃ i, i = ps.getD k 0 := ⟨_, rfl⟩
              have hkp : k < ps.length := by omega
              have hip : i ∈ ps := by rw [hi]; exact getD_memN hkp
              have hi4 := hgi.lt i hip
              have hlv := (hgi.lv i hi4).2 hip
              obtain ⟨adr, er, d1⟩ := hor.rr.get hkm
              cases er
              obtain ⟨adv, ev, d2⟩ := hor.rv.get hkm
              cases ev
              rw [refs_get hkp, ← hi] at d1
              obtain ⟨ref, href⟩ : ∃ ref, ref = refV (i : Nat) (gs i : Nat) (((c : Nat) : Int) == 0) := ⟨_, rfl⟩
              rw [← href] at d1
              obtain ⟨x, hx⟩ : ∃ x, x = vs.getD k 0 := ⟨_, rfl⟩
              rw [← hx] at d2
              have hxw : (sl.getD i dS).ws.getD 0 0 = x := by rw [hi, hx]; exact hgi.vals k hkp
              have hxb : 0 ≤ x ∧ x < 18446744073709551616 := by
                rw [hx]
                refine hgi.bd _ ?_
                have hvl := hgi.vl
                rw [List.getD_eq_getElem?_getD, List.getElem?_eq_getElem (by omega)]
                exact List.getElem_mem (by omega)
              have HLA := Lib.hid hla
              have HOR := Lib.hid hor
              have HGI := Lib.hid hgi
              have HPL := Lib.hid hpl
              have HI := Lib.hid hi
              have HRE := Lib.hid href
              have HXW := Lib.hid hxw
              have HXX := Lib.hid hx
              have HADQ : Hid ((adq.add (j * 7)).block < w.heap.size) := Lib.hid (by rw [block_of_add]; exact hbl')
              clear hla hor hgi hpl hi hip href hx hkp hxw
              have hcb : wr.cell? (adr.add k) = some (.int .i64 ref) ∧ wr.cell? (adv.add k) = some (.int .u64 x) ∧ wr.cell? ⟨(adq.add (j * 7)).block, (adq.add (j * 7)).off + 4, none⟩ = some (.int .u64 was) := ⟨d1, d2, HF4.out⟩
              clear d1 d2
              obtain ⟨yy, hyy⟩ : ∃ yy, yy = was.tmod 2 := ⟨_, rfl⟩
              have hy1 : yy < 2 := by rw [hyy]; exact Int.tmod_lt_of_pos was (by decide)
              have hy2 : -2 < yy := by rw [hyy]; exact Int.lt_tmod_of_pos was (by decide)
              have hwr1 : IntKind.i64.wrap (1000 + ((j : Nat) : Int)) = 1000 + (j : Nat) := IntWalk.i64_in _ (by omega)
              have hwu1 : IntKind.u64.wrap (1000 + ((j : Nat) : Int)) = 1000 + (j : Nat) := by rw [IntKind.wrap_u64]; omega
              have hsz := szN_pos hc5
              by_cases hy : yy = 0
              · have hmod : was.tmod 2 = 0 := by omega
                have hY : IntKind.u64.wrap (x + was.tmod 2) = x := by rw [hmod, IntKind.wrap_u64]; omega
                have HY := Lib.hid hY
                clear hY hyy
                try simp only [List.append_eq, List.cons_append, List.nil_append]
                refine reg36 (x := x) (was := was) (R := fun b W' => b = true ∧ ∃ sl', LA N B S 4 4 c (1 + j) (4 - m) lv gs sl' P I V xs W' ∧ OR w (Foot B S 5 sl' P I V) N m q (refs ps gs c) (gns gn c) vs (.slice (some adr) m cr) (.slice AG q cg) (.slice (some adv) m cv) W' ∧ (∀ y, y ≠ i → sl'.getD y dS = sl.getD y dS) ∧ (sl'.getD i dS).ws.getD 0 0 = 1000 + (j : Nat) ∧ (W'.cell? (adr.add k) = some (.int .i64 ref) ∧ W'.cell? (adv.add k) = some (.int .u64 x) ∧ W'.cell? ⟨(adq.add (j * 7)).block, (adq.add (j * 7)).off + 4, none⟩ = some (.int .u64 was))) hl1 hkm hm4 hl2 hcb ?sw (fun b W' h => by obtain ⟨-, _, -, -, -, -, h⟩ := h; exact h) ?go
                case sw =>
                  as_aux_lemma =>
                  intro W g hbl hg hge
                  rw [HY.out]
                  have hrd : Reads W W.heap.size 1 (some ⟨g, 0, none⟩) 1 (wv [1000 + (j : Nat)]) := ⟨rfl, fun _ => ⟨_, rfl, lt_of_heap hg, fun y u hu => by
                    have : (⟨g, 0, none⟩ : Addr).add y = ⟨g, y, none⟩ := by simp [Addr.add]; intro e; exact e.symm
                    rw [this, cell_of hg]; simpa [wv] using hu⟩⟩
                  have h1 := (HLA.out.on hbl).swapped (by omega) (by omega) hi4 hlv HXW.out (cc := 1) hrd (by omega)
                  rw [← HRE.out] at h1
                  refine h1.mono ?_
                  rintro e w' ⟨rfl, sl', hla, hmv, hs1, hs2⟩
                  have hor := (HOR.out.on hbl).mv hmv (HLA.out.on hbl).footN.1 hla.footN.2
                  refine ⟨_, rfl, rfl, sl', hla, hor, hs1, by rw [hs2]; rfl, ?_, ?_, ?_⟩
                  · obtain ⟨ad2, e, d⟩ := hor.rr.get hkm
                    cases e
                    rw [refs_get (by rw [HPL.out]; exact hkm), ← HI.out, ← HRE.out] at d
                    exact d
                  · obtain ⟨ad2, e, d⟩ := hor.rv.get hkm
                    cases e
                    rw [← HXX.out] at d
                    exact d
                  · obtain ⟨_, _, f4⟩ := hcb
                    rw [hor.bel.cell (by exact HADQ.out), ← HBW.out.cell (by exact HADQ.out)]
                    exact f4
                case go =>
                  intro v160 v161 v162 v163 v164 v165 v166 v167 v168 v169 v170 v171 v172 v173 v174 v175 v176 v177 v178 v179 v180 v181 v182 v183 b w5 hr
                  obtain ⟨rfl, sl', hla, hor, hs1, hs2, -, -, f4⟩ := hr
                  obtain ⟨adv2, v, ev, dc, df, ho6, hsm⟩ := hor.setV hkm (1000 + (j : Nat))
                  cases ev
                  have HO6 := Lib.hid ho6
                  have HSM := Lib.hid hsm
                  have HL5 := Lib.hid hla
                  have HS1 := Lib.hid hs1
                  have HS2 := Lib.hid hs2
                  clear hla hor hs1 hs2 ho6 hsm hcb HY
                  have kx0 : (0 : Int) ≤ k := by omega
                  have kx1 : (k : Int) < m := by omega
                  go_upto_region 40 with (fail)
                  go_wp2
                  have HOT : Hid (OS w N B S c P I (1 + (j + 1)) m q (.slice (some adr) m cr) (.slice AG q cg) (.slice (some adv) m cv) (w5.setCell (adv.add k) (.int .u64 (1000 + (j : Nat))))) := Lib.hid (OS.more ⟨lv, gs, sl', V, xs, ps, _, gn, HL5.out.same HSM.out, HO6.out, HGI.out.swapped (by rw [HPL.out]; exact hkm) HI.out HS1.out HS2.out (by omega), HPL.out, hm9⟩)
                  clear HLA HOR HGI HPL HI HRE HXW HO6 HSM HL5 HS1 HS2 f4 dc df
                  go_meet
                  exact ⟨m, q, _, _, _, rfl, rfl, rfl, by omega, by omega, HOT⟩
              · have hmod : ¬ was.tmod 2 = 0 := by omega
                have hmod2 : (was.tmod 2 == 0) = false := by simpa using hmod
                have hY : x ≠ IntKind.u64.wrap (x + was.tmod 2) := by rw [← hyy, IntKind.wrap_u64]; omega
                have HY := Lib.hid hY
                clear hY
                try simp only [List.append_eq, List.cons_append, List.nil_append]
                refine reg36 (x := x) (was := was) (R := fun b W' => b = false ∧ Below wr.heap.size wr W' ∧ (W'.cell? (adr.add k) = some (.int .i64 ref) ∧ W'.cell? (adv.add k) = some (.int .u64 x) ∧ W'.cell? ⟨(adq.add (j * 7)).block, (adq.add (j * 7)).off + 4, none⟩ = some (.int .u64 was))) hl1 hkm hm4 hl2 hcb ?sw (fun b W' h => h.2.2) ?go
                case sw =>
                  as_aux_lemma =>
                  intro W g hbl hg hge
                  have h1 := (HLA.out.on hbl).unswapped (by omega) (by omega) hi4 hlv (x := IntKind.u64.wrap (x + was.tmod 2)) (by rw [HXW.out]; exact HY.out) (some ⟨g, 0, none⟩) 1 1 (by omega)
                  rw [← HRE.out] at h1
                  refine h1.mono ?_
                  rintro e w' ⟨rfl, rfl⟩
                  obtain ⟨px, py, pf⟩ := hcb
                  exact ⟨_, rfl, rfl, hbl, (hbl.cell (World.block_lt_of_cell? _ _ px)).trans px, (hbl.cell (World.block_lt_of_cell? _ _ py)).trans py, (hbl.cell (World.block_lt_of_cell? _ _ pf)).trans pf⟩
                case go =>
                  intro v160 v161 v162 v163 v164 v165 v166 v167 v168 v169 v170 v171 v172 v173 v174 v175 v176 v177 v178 v179 v180 v181 v182 v183 b w5 hr
                  obtain ⟨rfl, hb5, -, -, f4⟩ := hr
                  have HOT := Lib.hid (HOS.out.on hb5).more
                  rw [show 1 + j + 1 = 1 + (j + 1) from rfl] at HOT
                  clear hcb HY
                  go_wp2
                  clear HLA HOR HGI HPL HI HRE HXW f4 hb5
                  go_meet
                  exact ⟨m, q, _, _, _, rfl, rfl, rfl, by omega, by omega, HOT⟩
            · have hmz : ¬ ((0 : Int) < m) := by omega
              have HOT := Lib.hid HOS.out.more
              rw [show 1 + j + 1 = 1 + (j + 1) from rfl] at HOT
              obtain rfl : m = 0 := by omega
              go_wp2
              go_meet
              exact ⟨0, q, _, _, _, rfl, rfl, rfl, by omega, by omega, HOT⟩
      obtain ⟨M, Q, VR2, VG2, VV2, hVR, hVG, hVV, hM4, hQj, HOT⟩ := hcut
      subst hVR hVG hVV
      clear HOS f3 f4
      obtain ⟨AR2, cr2, er⟩ : ∃ A c, VR2 = .slice A M c := by obtain ⟨_, _, _, _, _, _, _, _, _, ho, _⟩ := HOT.out; exact ho.rr.mid.form
      obtain ⟨AG2, cg2, eg⟩ : ∃ A c, VG2 = .slice A Q c := by obtain ⟨_, _, _, _, _, _, _, _, _, ho, _⟩ := HOT.out; exact ho.rg.mid.form
      obtain ⟨AV2, cv2, ev⟩ : ∃ A c, VV2 = .slice A M c := by obtain ⟨_, _, _, _, _, _, _, _, _, ho, _⟩ := HOT.out; exact ho.rv.mid.form
      subst er eg ev
      as_aux_lemma =>
        obtain ⟨wt, hwt⟩ : ∃ wt : World, wt = wc := ⟨_, rfl⟩
        rw [← hwt] at HOT ⊢
        clear hwt
        obtain ⟨lv, gs, sl, V, xs, ps, vs, gn, hla, hor, hgi, hpl, hm9⟩ := HOT.out
        have HLA := Lib.hid hla
        have HOR := Lib.hid hor
        have HGI := Lib.hid hgi
        have HPL := Lib.hid hpl
        clear hla hor hgi hpl
        have hsl : sl.length = 4 := HLA.out.len
        have HSL := Lib.hid hsl
        clear hsl
        have HGE : Hid (∀ i, i < 4 → (sl.getD i dS).cls = c ∧ (sl.getD i dS).gen = gs i ∧ 1 ≤ gs i ∧ gs i ≤ 100) := Lib.hid (fun i hi => by
          have h1 := HLA.out.all i hi
          have h2 := HLA.out.ok.gen i (by rw [HSL.out]; exact hi)
          exact ⟨h1.1, h1.2.1, by omega, by omega⟩)
        go_wp2
        go_loopw [206] (fun i W => ∃ z : Nat, i = .int .i64 z ∧ z ≤ M ∧ Hid (Below wt.heap.size wt W)) (fun i _ => M - (intOf i).toNat)
        case atStart => exact ⟨0, rfl, Nat.zero_le _, Lib.hid (Below.refl _ _)⟩
        case round =>
          obtain ⟨z, rfl, hz, HBZ⟩ := hrel
          have z0 : (0 : Int) ≤ z := by omega
          by_cases hzm : z < M
          · have z1 : (z : Int) < M := by omega
            have HO2 := Lib.hid (HOR.out.on HBZ.out)
            obtain ⟨adr, er, d1⟩ := HO2.out.rr.get hzm
            cases er
            obtain ⟨adv, ev, d2⟩ := HO2.out.rv.get hzm
            cases ev
            obtain ⟨i, hi⟩ : ∃ i, i = ps.getD z 0 := ⟨_, rfl⟩
            have hip : i ∈ ps := by rw [hi]; exact getD_memN (by rw [HPL.out]; exact hzm)
            have hi4 := HGI.out.lt i hip
            obtain ⟨g1, g2, g3, g4⟩ := HGE.out i hi4
            have hli : (sl.getD i dS).live = true := by rw [(HLA.out.all i hi4).2.2]; exact (HGI.out.lv i hi4).2 hip
            have hlv := live_ref (sl := sl) (i := i) (by rw [HSL.out]; exact hi4) (by omega) hli (by omega)
            rw [g1, g2] at hlv
            have hv := HGI.out.vals z (by rw [HPL.out]; exact hzm)
            rw [← hi] at hv
            rw [refs_get (by rw [HPL.out]; exact hzm), ← hi] at d1
            obtain ⟨ref, href⟩ : ∃ ref, ref = refV (i : Nat) (gs i : Nat) (((c : Nat) : Int) == 0) := ⟨_, rfl⟩
            rw [← href] at d1 hlv
            obtain ⟨x, hx⟩ : ∃ x, x = vs.getD z 0 := ⟨_, rfl⟩
            rw [← hx] at d2 hv
            have HLD : Hid (Calls Try.prog 16 #[.pointer (some ⟨B, 0, none⟩), .int .i64 ref] wr fun e w' => ∃ b, e = .returned (.tuple #[.slice (some ⟨b, 0, none⟩) n n, .int .i64 0]) ∧ w'.cell? ⟨b, 0, none⟩ = some (.int .u64 x) ∧ Below wr.heap.size wr w') := Lib.hid (by
              have h1 := load_ok (HLA.out.ar.on HBZ.out) (by rw [HSL.out]; omega) hlv
              rw [g1, ← HNC.out] at h1
              refine h1.mono ?_
              rintro e w' ⟨b, rfl, hb, hge, hbl⟩
              refine ⟨b, rfl, ?_, hbl⟩
              obtain ⟨-, w2, -, -⟩ := HLA.out.ar.wds i (by rw [HSL.out]; exact hi4)
              rw [cell_of hb]
              rw [g1, ← HNC.out] at w2
              generalize (sl.getD i dS).ws = l at *
              cases l with
              | nil => have h5 : 0 = n := w2
                       omega
              | cons y t => rw [← hv]; rfl)
            have D2 := Lib.hid d2
            clear d2 hi hip hi4 g1 g2 g3 g4 hli hlv hv href hx
            go_upto_region 45 with (first
              | (go_at_call 16; refine HLD.out.mono ?_; rintro e w5 ⟨b, rfl, hb5, hbl5⟩
                 have d2 : w5.cell? (adv.add z) = some (.int .u64 x) := (hbl5.cell (World.block_lt_of_cell? _ _ D2.out)).trans D2.out
                 have HB5 := Lib.hid (HBZ.out.trans (hbl5.mono HBZ.out.size))
                 clear hbl5)
              | fail)
            have nz : (0 : Int) < n := by omega
            have nz2 : (((n : Nat) : Int) == 0) = false := by simp; omega
            go_big_region
            all_goals
              go_wp2
              go_roundw
              case rel =>
                first
                  | exact ⟨z + 1, by go_num, by omega, Lib.hid (HB5.out.trans ((below_drew _).mono HB5.out.size))⟩
                  | (repeat apply Exists.intro
                     refine ⟨?r2, rfl⟩
                     case r2 => exact ⟨z + 1, by go_num, by omega, Lib.hid (HB5.out.trans ((below_drew _).mono HB5.out.size))⟩)
              case measure =>
                first
                  | (simp only [intOf]; omega)
                  | (show M - ((z : Int) + 1).toNat < M - ((z : Int)).toNat; omega)
          · obtain rfl : M = z := by omega
            have HOT := Lib.hid (HOT.out.on HBZ.out)
            have HO2 := Lib.hid (HOR.out.on HBZ.out)
            have HLA2 := Lib.hid (HLA.out.on HBZ.out)
            obtain ⟨wu, hwu⟩ : ∃ wu : World, wu = wr := ⟨_, rfl⟩
            rw [← hwu] at HOT HO2 HLA2 ⊢
            clear hwu
            go_wp2
            go_loopw [237] (fun i W => ∃ z : Nat, i = .int .i64 z ∧ z ≤ Q ∧ Hid (Below wu.heap.size wu W)) (fun i _ => Q - (intOf i).toNat)
            case atStart => exact ⟨0, rfl, Nat.zero_le _, Lib.hid (Below.refl _ _)⟩
            case round =>
              obtain ⟨z, rfl, hz, HBQ⟩ := hrel
              have HO2 := Lib.hid (HO2.out.on HBQ.out)
              have HLA2 := Lib.hid (HLA2.out.on HBQ.out)
              have HOT := Lib.hid (HOT.out.on HBQ.out)
              have z0 : (0 : Int) ≤ z := by omega
              by_cases hzq : z < Q
              · have z1 : (z : Int) < Q := by omega
                obtain ⟨adg, eg, d1⟩ := HO2.out.rg.get hzq
                cases eg
                have hgl : gn.length = Q := by have := HO2.out.rg.len; unfold gns at this; rwa [List.length_map] at this
                obtain ⟨i, g, hmem, hge⟩ := gone_get (c := c) (show z < gn.length by omega)
                obtain ⟨h1, h2, h3⟩ := HGI.out.gone _ hmem
                replace h1 : i < 4 := h1
                replace h2 : 1 ≤ g := h2
                replace h3 : g < gs i := h3
                clear hmem
                obtain ⟨g1, g2, g3, g4⟩ := HGE.out i h1
                have hwy := why_gone (sl := sl) (c := c) (n := 0) (i := i) (g := g) (by rw [HSL.out]; exact h1) (by omega) g1 (by omega) (by rw [g2]; omega)
                rw [hge] at d1
                obtain ⟨ref, href⟩ : ∃ ref, ref = refV (i : Nat) (g : Nat) (((c : Nat) : Int) == 0) := ⟨_, rfl⟩
                rw [← href] at d1 hwy
                have HLD := Lib.hid (load_no HLA2.out.ar (by rw [HSL.out]; omega) hwy)
                have HFR := Lib.hid (free_no HLA2.out.ar (by rw [HSL.out]; omega) hwy)
                clear hgl hge h1 h2 h3 g1 g2 g3 g4 hwy href
                go_wp2_with (first
                  | (go_at_call 16; refine HLD.out.mono ?_; rintro e w9 ⟨rfl, hh⟩; subst w9)
                  | (go_at_call 18; refine HFR.out.mono ?_; rintro e w9 ⟨rfl, hh⟩; subst w9)
                  | fail)
                refine ⟨?ex, ?measure⟩
                case ex =>
                  first
                    | exact ⟨z + 1, by go_num, by omega, HBQ⟩
                    | (repeat apply Exists.intro
                       refine ⟨?rel, rfl⟩
                       case rel => exact ⟨z + 1, by go_num, by omega, HBQ⟩)
                case measure =>
                  first
                    | (show Q - ((z : Int) + 1).toNat < Q - ((z : Int)).toNat; omega)
                    | (simp only [intOf]; omega)
              · obtain rfl : Q = z := by omega
                have hlive := HLA2.out.live hc5 (by omega) (by omega)
                rw [show ((4 : Nat) : Int) - ((4 - M : Nat) : Int) = (M : Nat) from by omega] at hlive
                have hroom := room_in HLA2.out.ar c hc5
                rw [HLA2.out.cnt, show ((4 - M : Nat) : Int) = 4 - (M : Nat) from by omega] at hroom
                have HLV := Lib.hid hlive
                have HRM := Lib.hid hroom
                clear hlive hroom
                go_wp2_with (first
                  | (go_at_call 14; refine HLV.out.mono ?_; rintro e w9 ⟨rfl, hh⟩; subst w9)
                  | (go_at_call 15; refine HRM.out.mono ?_; rintro e w9 ⟨rfl, hh⟩; subst w9)
                  | fail)
                go_roundw
                case rel =>
                  first
                    | exact ⟨j + 1, M, Q, _, _, _, by go_num, by omega, by omega, by omega, by omega, rfl, rfl, rfl, HOT⟩
                    | (repeat apply Exists.intro
                       refine ⟨?r2, rfl⟩
                       case r2 => exact ⟨j + 1, M, Q, _, _, _, by go_num, by omega, by omega, by omega, by omega, rfl, rfl, rfl, HOT⟩)
                case measure =>
                  first
                    | (show 60 - ((j : Int) + 1).toNat < 60 - ((j : Int)).toNat; omega)
                    | (simp only [intOf]; omega)
    · have hlt2 : j < n' ∧ ¬ j < 60 ∨ ¬ j < n' := by omega
      have HBW : Hid (Below w.heap.size w wr) := Lib.hid (by obtain ⟨_, _, _, _, _, _, _, _, _, ho, _⟩ := HOS.out; exact ho.bel)
      rcases hlt2 with ⟨g1, g2⟩ | g1
      all_goals
        go_wp2_with (first
          | (go_at_call 20; refine (arenaRuns_any _).mono ?_; rintro e w9 ⟨rfl, hb9⟩)
          | fail)
        go_ret
        exact ⟨rfl, HBW.out.trans (hb9.mono HBW.out.size)⟩
end Go.Proofs.Ytndmpdpmfieacaa
