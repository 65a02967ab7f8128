/-
  MemSwaps at any configuration, words and class; conditions: lengths.
-/
import Derived.Test.YtndmpdpmfieacaaMm2
namespace Go.Proofs.Ytndmpdpmfieacaa
open Go.RowKit Go.WideShapes Go.ChangeShapes
set_option linter.all false
theorem reads_new {W : World} {g : Nat} {l : List Int} (hg : W.heap[g]? = some (.cells (wv l).toArray 35 (0, 0))) : Reads W W.heap.size 1 (some ⟨g, 0, none⟩) l.length (wv l) :=
  ⟨by rw [wv_len, Nat.mul_one], fun _ => ⟨_, rfl, lt_of_heap hg, fun y u hu => by
    have : (⟨g, 0, none⟩ : Addr).add y = ⟨g, y, none⟩ := by simp [Addr.add]; intro e; exact e.symm
    rw [this, cell_of hg]; simpa using hu⟩⟩
set_option maxRecDepth 100000 in
set_option maxHeartbeats 3200000 in
theorem swaps_any (s : Nat → Int) (a b' cls : Int) (ha : 0 ≤ a ∧ a < 18446744073709551616) (w : World) : Calls Try.prog 10 #[.agg (eight s), .int .u64 a, .int .u64 b', .int .i64 cls] w fun e w' => e = .returned (.bool true) ∧ Below w.heap.size w w' := by
  obtain ⟨c, hc, hc4⟩ := withinV_nat cls 4 (by omega)
  have HWC : Hid (∀ W, Calls Try.prog 21 #[.int .i64 cls, .int .i64 0, .int .i64 3] W fun e w' => e = .returned (.int .i64 (c : Nat)) ∧ W = w') := Lib.hid (fun W => by
    have := within_any cls 3 (by omega) (by omega) W
    rw [show ((3 : Int) + 1) = ((4 : Nat) : Int) from rfl, hc] at this
    exact this)
  have HCF : Hid (∀ W, Calls Try.prog 33 #[.agg #[.int .i64 (s 0), .int .i64 (s 1), .int .i64 (s 2), .int .i64 (s 3), .int .i64 (s 4), .int .i64 (s 5), .int .i64 (s 6), .int .i64 (s 7)]] W fun e w' => ∃ g : Nat → Nat, CfgOk g ∧ e = .returned (.agg (eight fun i => (g i : Nat))) ∧ Below W.heap.size W w') := Lib.hid (fun W => cfg_any s W)
  obtain ⟨a4, ha4⟩ : ∃ a4, a4 = IntKind.u64.wrap (a + 4) := ⟨_, rfl⟩
  have hne4 : a4 ≠ a := by rw [ha4, IntKind.wrap_u64]; omega
  have HNE := Lib.hid hne4
  have h4a := ha4.symm
  clear hc hne4 ha4 ha
  unfold eight
  go_enter Try.func10, Try.ntmps10
  go_upto_region 1 with (fail)
  obtain ⟨W1, hW1⟩ : ∃ W1 : World, W1 = w.alloc (.cells #[.int .i64 (s 0), .int .i64 (s 1), .int .i64 (s 2), .int .i64 (s 3), .int .i64 (s 4), .int .i64 (s 5), .int .i64 (s 6), .int .i64 (s 7)] 72) := ⟨_, rfl⟩
  obtain ⟨p, hp⟩ : ∃ p, p = w.heap.size := ⟨_, rfl⟩
  have h1 : W1.heap[p]? = some (.cells #[.int .i64 (s 0), .int .i64 (s 1), .int .i64 (s 2), .int .i64 (s 3), .int .i64 (s 4), .int .i64 (s 5), .int .i64 (s 6), .int .i64 (s 7)] 72 (0, 0)) := by rw [hW1, hp]; exact heap_alloc_new w _
  have b1 : Below w.heap.size w W1 := by rw [hW1]; exact below_alloc w _
  rw [← hW1, ← hp]
  have HB1 := Lib.hid b1
  have d0 : W1.cell? ⟨p, 0, none⟩ = some (.int .i64 (s 0)) := (cell_of h1 0).trans rfl
  have d1 : W1.cell? ⟨p, 1, none⟩ = some (.int .i64 (s 1)) := (cell_of h1 1).trans rfl
  have d2 : W1.cell? ⟨p, 2, none⟩ = some (.int .i64 (s 2)) := (cell_of h1 2).trans rfl
  have d3 : W1.cell? ⟨p, 3, none⟩ = some (.int .i64 (s 3)) := (cell_of h1 3).trans rfl
  have d4 : W1.cell? ⟨p, 4, none⟩ = some (.int .i64 (s 4)) := (cell_of h1 4).trans rfl
  have d5 : W1.cell? ⟨p, 5, none⟩ = some (.int .i64 (s 5)) := (cell_of h1 5).trans rfl
  have d6 : W1.cell? ⟨p, 6, none⟩ = some (.int .i64 (s 6)) := (cell_of h1 6).trans rfl
  have d7 : W1.cell? ⟨p, 7, none⟩ = some (.int .i64 (s 7)) := (cell_of h1 7).trans rfl
  clear hW1 hp h1 b1
  go_upto_region 2 with (first
    | (go_at_call 33; refine (HCF.out _).mono ?_; rintro e w2 ⟨g, hg, rfl, hb2⟩
       have HG := Lib.hid hg
       have HB2 := Lib.hid (HB1.out.trans (hb2.mono HB1.out.size))
       clear hg hb2
       unfold eight)
    | fail)
  clear d0 d1 d2 d3 d4 d5 d6 d7 HCF
  obtain ⟨W3, hW3⟩ : ∃ W3 : World, W3 = w2.alloc (.cells #[.int .i64 (g 0 : Nat), .int .i64 (g 1 : Nat), .int .i64 (g 2 : Nat), .int .i64 (g 3 : Nat), .int .i64 (g 4 : Nat), .int .i64 (g 5 : Nat), .int .i64 (g 6 : Nat), .int .i64 (g 7 : Nat)] 72) := ⟨_, rfl⟩
  obtain ⟨r, hr⟩ : ∃ r, r = w2.heap.size := ⟨_, rfl⟩
  have h3 : W3.heap[r]? = some (.cells #[.int .i64 (g 0 : Nat), .int .i64 (g 1 : Nat), .int .i64 (g 2 : Nat), .int .i64 (g 3 : Nat), .int .i64 (g 4 : Nat), .int .i64 (g 5 : Nat), .int .i64 (g 6 : Nat), .int .i64 (g 7 : Nat)] 72 (0, 0)) := by rw [hW3, hr]; exact heap_alloc_new w2 _
  have b3 : Below w.heap.size w W3 := by rw [hW3]; exact HB2.out.trans ((below_alloc w2 _).mono HB2.out.size)
  have hrl : w.heap.size ≤ r ∧ r < W3.heap.size := ⟨by rw [hr]; exact HB2.out.size, lt_of_heap h3⟩
  rw [← hW3, ← hr]
  have HB3 := Lib.hid b3
  have HRL := Lib.hid hrl
  have HR3 := Lib.hid h3
  have d0 : W3.cell? ⟨r, 0, none⟩ = some (.int .i64 (g 0 : Nat)) := (cell_of h3 0).trans rfl
  have d1 : W3.cell? ⟨r, 1, none⟩ = some (.int .i64 (g 1 : Nat)) := (cell_of h3 1).trans rfl
  have d2 : W3.cell? ⟨r, 2, none⟩ = some (.int .i64 (g 2 : Nat)) := (cell_of h3 2).trans rfl
  have d3 : W3.cell? ⟨r, 3, none⟩ = some (.int .i64 (g 3 : Nat)) := (cell_of h3 3).trans rfl
  have d4 : W3.cell? ⟨r, 4, none⟩ = some (.int .i64 (g 4 : Nat)) := (cell_of h3 4).trans rfl
  have d5 : W3.cell? ⟨r, 5, none⟩ = some (.int .i64 (g 5 : Nat)) := (cell_of h3 5).trans rfl
  have d6 : W3.cell? ⟨r, 6, none⟩ = some (.int .i64 (g 6 : Nat)) := (cell_of h3 6).trans rfl
  have d7 : W3.cell? ⟨r, 7, none⟩ = some (.int .i64 (g 7 : Nat)) := (cell_of h3 7).trans rfl
  clear hW3 hr h3 b3 hrl
  have HNW : Hid (Calls Try.prog 34 #[.agg #[.int .i64 (g 0 : Nat), .int .i64 (g 1 : Nat), .int .i64 (g 2 : Nat), .int .i64 (g 3 : Nat), .int .i64 (g 4 : Nat), .int .i64 (g 5 : Nat), .int .i64 (g 6 : Nat), .int .i64 (g 7 : Nat)]] W3 fun e w' => ∃ b, e = .returned (.tuple #[.pointer (some ⟨b, 0, none⟩), .int .i64 0]) ∧ NewM g W3 b w') := Lib.hid (mem_new g HG.out W3)
  go_upto_region 5 with (first
    | (go_at_call 34; refine HNW.out.mono ?_; rintro e w4 ⟨b, rfl, hnew⟩
       have HNM := Lib.hid hnew
       clear hnew)
    | fail)
  clear d0 d1 d2 d3 d4 d5 d6 d7 HNW
  obtain ⟨B, S, E, R, K, sl, P, I, V, xs, i0, hmm, hb4, hi0, hic, hig, hil, hiw, hfr, hcn⟩ := HNM.out
  have HST : Hid (ST w.heap.size w W3.heap.size b B S E R (g 5) K 1 (g 6 : Nat) (refV (i0 : Nat) (1 : Nat) false) sl P I V xs w4) := Lib.hid ⟨hmm, HB3.out.trans (hb4.mono HB3.out.size), HB3.out.size, Nat.le_trans HB3.out.size hb4.size⟩
  have HSL : Hid (SL sl i0 4 1 root0) := Lib.hid ⟨hi0, hic, hig, hil, hiw⟩
  have HFR := Lib.hid hfr
  have HCN := Lib.hid hcn
  have HRF : Hid (¬ Foot B S 5 sl P I V r) := Lib.hid (fun hf => by have := (hmm.ar.foot hf).1; have := hmm.ar.NS; have := HRL.out; omega)
  have HR4 := Lib.hid ((hb4.block r HRL.out.2).trans HR3.out)
  have HS4 := Lib.hid hb4.size
  have hk5 : 1 ≤ g 5 ∧ g 5 ≤ 4 := HG.out 5 (by omega)
  clear HNM hmm hb4 hi0 hic hig hil hiw hfr hcn
  have hxc : xs c ≠ [] := fun e => by
    have h1 := HCN.out c hc4
    have h2 := (HG.out c (by omega)).1
    rw [e] at h1
    have h3 : 1 ≤ cfgC c := by
      have : c = 0 ∨ c = 1 ∨ c = 2 ∨ c = 3 := by omega
      rcases this with rfl | rfl | rfl | rfl <;> decide
    simp at h1; omega
  have HXC := Lib.hid hxc
  have hsz := szN_pos (show c < 5 by omega)
  have HSZ := Lib.hid hsz
  clear hxc hsz
  go_upto_region 6 with (first
    | (go_at_call 21; refine (HWC.out _).mono ?_; rintro e w9 ⟨rfl, hh⟩; subst w9)
    | (go_at_call 35; refine (do_alloc (HST.out.on (below_alloc w4 (.cells #[.int .u64 a] 35))) (Nat.le_refl _) (by omega) 0 (by omega) 0 0 0 (show c < 5 by omega) (reads_new (l := [a]) (heap_alloc_new w4 _)) (Nat.le_refl _) (fun ad e _ hf => by injection e with e; subst e; have := (HST.out.mm.ar.foot hf).2; exact absurd this (Nat.lt_irrefl _)) (by have := HSZ.out; show 1 ≤ szN c; omega) HXC.out).mono ?_
       rintro e w6 ⟨i, gn, rfl, hs6, sl2, V2, xs2, hst, hsl, hkp⟩
       have HST6 := Lib.hid hst
       have HSL6 := Lib.hid hsl
       have HKP := Lib.hid hkp
       have HS6 := Lib.hid hs6
       clear hst hsl hkp hs6
       unfold resV)
    | fail)
  obtain ⟨ref, href⟩ : ∃ ref, ref = refV (i : Nat) (gn : Nat) (((c : Nat) : Int) == 0) := ⟨_, rfl⟩
  rw [← href]
  obtain ⟨W7, hW7⟩ : ∃ W7 : World, W7 = w6.alloc (.cells #[.int .i64 0, .int .i64 ref, .bool false, .slice none 0 0] 80) := ⟨_, rfl⟩
  obtain ⟨t, ht⟩ : ∃ t, t = w6.heap.size := ⟨_, rfl⟩
  have hbW7 : W7.heap[t]? = some (.cells #[.int .i64 0, .int .i64 ref, .bool false, .slice none 0 0] 80 (0, 0)) := by rw [hW7, ht]; exact heap_alloc_new w6 _
  have hlW7 : Below w6.heap.size w6 W7 := by rw [hW7]; exact below_alloc w6 _
  rw [← hW7, ← ht]
  have HREF := Lib.hid href
  have HST7 := Lib.hid (HST6.out.on hlW7)
  have hr6 := HKP.out r HRL.out.1 (by have := HRL.out; have := HS4.out; simp; omega) HRF.out
  have HR7 := Lib.hid ((hlW7.block r (lt_of_heap (hr6.1.trans (((below_alloc w4 _).block r (lt_of_heap HR4.out)).trans HR4.out)))).trans (hr6.1.trans (((below_alloc w4 _).block r (lt_of_heap HR4.out)).trans HR4.out)))
  have HRF7 := Lib.hid hr6.2
  have HTF7 : Hid (¬ Foot B S 5 sl2 P I V2 t) := Lib.hid (fun hf => by have := (HST6.out.mm.ar.foot hf).2; omega)
  have HTM : Hid (w.heap.size ≤ t) := Lib.hid (by have := HST6.out.M0; omega)
  have HT7 := Lib.hid hbW7
  have e0 : W7.cell? ⟨t, 0, none⟩ = some (.int .i64 0) := (cell_of hbW7 0).trans rfl
  have e1 : W7.cell? ⟨t, 1, none⟩ = some (.int .i64 ref) := (cell_of hbW7 1).trans rfl
  clear href hW7 ht hlW7 hbW7 hr6 HKP HRF HR4 HST HSL HST6 HS6
  go_upto_region 9 with (first
    | (go_at_call 35; rw [HREF.out]; refine (do_swap_ok (HST7.out.on (below_alloc W7 (.cells #[.int .u64 a4, .int .u64 1] 35))) (Nat.le_refl _) (by omega) 0 (by omega) 0 0 a HSL6.out (reads_new (l := [a4, 1]) (heap_alloc_new W7 _)) (Nat.le_refl _) (by have := HSZ.out; show 2 ≤ szN c; omega) rfl).mono ?_
       rintro e w8 ⟨rfl, hs8, sl3, hst, hsl, hkp⟩
       have HST8 := Lib.hid hst
       have HSL8 := Lib.hid hsl
       have HKP8 := Lib.hid hkp
       clear hst hsl hkp hs8 e0 e1
       unfold resV)
    | fail)
  obtain ⟨W9, hW9⟩ : ∃ W9 : World, W9 = w8.alloc (.cells #[.int .i64 0, .int .i64 0, .bool true, .slice none 0 0] 80) := ⟨_, rfl⟩
  obtain ⟨u, hu⟩ : ∃ u, u = w8.heap.size := ⟨_, rfl⟩
  have hbW9 : W9.heap[u]? = some (.cells #[.int .i64 0, .int .i64 0, .bool true, .slice none 0 0] 80 (0, 0)) := by rw [hW9, hu]; exact heap_alloc_new w8 _
  have hlW9 : Below w8.heap.size w8 W9 := by rw [hW9]; exact below_alloc w8 _
  rw [← hW9, ← hu]
  have hr8 := HKP8.out r HRL.out.1 (by have := lt_of_heap HR7.out; simp; omega) HRF7.out
  have ht8 := HKP8.out t HTM.out (by have := lt_of_heap HT7.out; simp; omega) HTF7.out
  have hr9 := hr8.1.trans (((below_alloc W7 _).block r (lt_of_heap HR7.out)).trans HR7.out)
  have ht9 := ht8.1.trans (((below_alloc W7 _).block t (lt_of_heap HT7.out)).trans HT7.out)
  have hr9' := (hlW9.block r (lt_of_heap hr9)).trans hr9
  have ht9' := (hlW9.block t (lt_of_heap ht9)).trans ht9
  have HST9 := Lib.hid (HST8.out.on hlW9)
  have HT9 := Lib.hid ht9'
  have HU9 := Lib.hid hbW9
  have d5 : W9.cell? ⟨r, 5, none⟩ = some (.int .i64 (g 5 : Nat)) := (cell_of hr9' 5).trans rfl
  have e1 : W9.cell? ⟨t, 1, none⟩ = some (.int .i64 ref) := (cell_of ht9' 1).trans rfl
  obtain ⟨k1, hk1⟩ : ∃ k1, k1 = g 5 - 1 := ⟨_, rfl⟩
  have hki : ((g 5 : Nat) : Int) - 1 = (k1 : Nat) := by omega
  have hk1l : k1 < g 5 := by omega
  clear hW9 hu hr8 ht8 hr9 ht9 hr9' ht9' hlW9 hbW9 HKP8 HR7 HRF7 HT7 HTF7 HST7 HST8 HSL6 hk1
  go_upto_region 10 with (first
    | (go_at_call 35; rw [HREF.out]; refine (do_swap_ne (HST9.out.on (below_alloc W9 (.cells #[.int .u64 b', .int .u64 2] 35))).mm (by omega) k1 hk1l 0 0 a HSL8.out (by have := HSZ.out; show 2 ≤ szN c; omega) HNE.out).mono ?_
       rintro e w10 ⟨rfl, hb10⟩
       have HB10 := Lib.hid ((below_alloc W9 _).trans (hb10.mono (below_alloc W9 _).size))
       clear hb10 d5 e1
       unfold resV)
    | fail)
  obtain ⟨W11, hW11⟩ : ∃ W11 : World, W11 = w10.alloc (.cells #[.int .i64 0, .int .i64 0, .bool false, .slice none 0 0] 80) := ⟨_, rfl⟩
  obtain ⟨v, hv⟩ : ∃ v, v = w10.heap.size := ⟨_, rfl⟩
  have hbW11 : W11.heap[v]? = some (.cells #[.int .i64 0, .int .i64 0, .bool false, .slice none 0 0] 80 (0, 0)) := by rw [hW11, hv]; exact heap_alloc_new w10 _
  have hlW11 : Below w10.heap.size w10 W11 := by rw [hW11]; exact below_alloc w10 _
  rw [← hW11, ← hv]
  have hb9 : Below W9.heap.size W9 W11 := HB10.out.trans (hlW11.mono HB10.out.size)
  have HB9 := Lib.hid hb9
  have HST11 := Lib.hid (HST9.out.on hb9)
  have HV11 := Lib.hid hbW11
  have e1 : W11.cell? ⟨t, 1, none⟩ = some (.int .i64 ref) := (cell_of ((hb9.block t (lt_of_heap HT9.out)).trans HT9.out) 1).trans rfl
  clear hW11 hv hlW11 hbW11 hb9 HB10
  go_upto_region 11 with (first
    | (go_at_call 35; rw [HREF.out]; refine (do_load HST11.out.mm (by omega) 0 (by omega) 0 0 0 none 0 0 HSL8.out).mono ?_
       rintro e w12 ⟨gl, rfl, hgl, hge, hb12⟩
       have HGL := Lib.hid hgl
       have HB12 := Lib.hid hb12
       clear hgl hge hb12 e1
       unfold resV)
    | fail)
  obtain ⟨W13, hW13⟩ : ∃ W13 : World, W13 = w12.alloc (.cells #[.int .i64 0, .int .i64 0, .bool false, .slice (some ⟨gl, 0, none⟩) (szN c) (szN c)] 80) := ⟨_, rfl⟩
  obtain ⟨z, hz⟩ : ∃ z, z = w12.heap.size := ⟨_, rfl⟩
  have hbW13 : W13.heap[z]? = some (.cells #[.int .i64 0, .int .i64 0, .bool false, .slice (some ⟨gl, 0, none⟩) (szN c) (szN c)] 80 (0, 0)) := by rw [hW13, hz]; exact heap_alloc_new w12 _
  have hlW13 : Below w12.heap.size w12 W13 := by rw [hW13]; exact below_alloc w12 _
  rw [← hW13, ← hz]
  have hb11 : Below W11.heap.size W11 W13 := HB12.out.trans (hlW13.mono HB12.out.size)
  have hu13 := (hb11.block u (by have := lt_of_heap HU9.out; have := HB9.out.size; omega)).trans ((HB9.out.block u (lt_of_heap HU9.out)).trans HU9.out)
  have hv13 := (hb11.block v (lt_of_heap HV11.out)).trans HV11.out
  have hg13 := (hlW13.block gl (lt_of_heap HGL.out)).trans HGL.out
  have u0 : W13.cell? ⟨u, 0, none⟩ = some (.int .i64 0) := (cell_of hu13 0).trans rfl
  have u2 : W13.cell? ⟨u, 2, none⟩ = some (.bool true) := (cell_of hu13 2).trans rfl
  have v0 : W13.cell? ⟨v, 0, none⟩ = some (.int .i64 0) := (cell_of hv13 0).trans rfl
  have v2 : W13.cell? ⟨v, 2, none⟩ = some (.bool false) := (cell_of hv13 2).trans rfl
  have z3 : W13.cell? ⟨z, 3, none⟩ = some (.slice (some ⟨gl, 0, none⟩) (szN c) (szN c)) := (cell_of hbW13 3).trans rfl
  have g0 : W13.cell? ⟨gl, 0, none⟩ = some (.int .u64 a4) := (cell_of hg13 0).trans rfl
  have g1 : W13.cell? ⟨gl, 1, none⟩ = some (.int .u64 1) := (cell_of hg13 1).trans rfl
  have HB13 : Hid (Below w.heap.size w W13) := Lib.hid (HST11.out.bel.trans (hb11.mono HST11.out.M0))
  have hn1 : (1 : Int) < (szN c : Nat) := by have := HSZ.out; omega
  have hn0 : (0 : Int) < (szN c : Nat) := by have := HSZ.out; omega
  generalize szN c = n at *
  clear hW13 hz hlW13 hbW13 hb11 hu13 hv13 hg13
  go_wp2_with (first
    | (go_at_call 38; refine (memRuns_any _).mono ?_; rintro e w14 ⟨rfl, hb14⟩)
    | fail)
  go_ret
  exact ⟨rfl, HB13.out.trans (hb14.mono HB13.out.size)⟩
end Go.Proofs.Ytndmpdpmfieacaa
