/-
  MemRoot at any configuration and client; conditions: lengths.
-/
import Derived.Test.YtndmpdpmfieacaaMmP
namespace Go.Proofs.Ytndmpdpmfieacaa
open Go.RowKit Go.WideShapes Go.ChangeShapes
set_option linter.all false
theorem ba_nil {b : ByteArray} (h : b.size = 0) : b = ⟨#[]⟩ := ByteArray.ext (Array.eq_empty_of_size_eq_zero h)
set_option maxRecDepth 100000 in
set_option maxHeartbeats 3200000 in
theorem root_law (s : Nat → Int) (cl : Int) (w : World) : Calls Try.prog 9 #[.agg (eight s), .int .i64 cl] w fun e w' => e = .returned (.bool true) ∧ Below w.heap.size w w' := by
  have HCF : Hid (∀ W, Calls Try.prog 33 #[.agg #[.int .i64 (s 0), .int .i64 (s 1), .int .i64 (s 2), .int .i64 (s 3), .int .i64 (s 4), .int .i64 (s 5), .int .i64 (s 6), .int .i64 (s 7)]] W fun e w' => ∃ g : Nat → Nat, CfgOk g ∧ e = .returned (.agg (eight fun i => (g i : Nat))) ∧ Below W.heap.size W w') := Lib.hid (fun W => cfg_any s W)
  unfold eight
  go_enter Try.func9, Try.ntmps9
  go_upto_region 1 with (fail)
  obtain ⟨W1, hW1⟩ : ∃ W1 : World, W1 = w.alloc (.cells #[.int .i64 (s 0), .int .i64 (s 1), .int .i64 (s 2), .int .i64 (s 3), .int .i64 (s 4), .int .i64 (s 5), .int .i64 (s 6), .int .i64 (s 7)] 72) := ⟨_, rfl⟩
  obtain ⟨p, hp⟩ : ∃ p, p = w.heap.size := ⟨_, rfl⟩
  have h1 : W1.heap[p]? = some (.cells #[.int .i64 (s 0), .int .i64 (s 1), .int .i64 (s 2), .int .i64 (s 3), .int .i64 (s 4), .int .i64 (s 5), .int .i64 (s 6), .int .i64 (s 7)] 72 (0, 0)) := by rw [hW1, hp]; exact heap_alloc_new w _
  have b1 : Below w.heap.size w W1 := by rw [hW1]; exact below_alloc w _
  rw [← hW1, ← hp]
  have HB1 := Lib.hid b1
  have d0 : W1.cell? ⟨p, 0, none⟩ = some (.int .i64 (s 0)) := (cell_of h1 0).trans rfl
  have d1 : W1.cell? ⟨p, 1, none⟩ = some (.int .i64 (s 1)) := (cell_of h1 1).trans rfl
  have d2 : W1.cell? ⟨p, 2, none⟩ = some (.int .i64 (s 2)) := (cell_of h1 2).trans rfl
  have d3 : W1.cell? ⟨p, 3, none⟩ = some (.int .i64 (s 3)) := (cell_of h1 3).trans rfl
  have d4 : W1.cell? ⟨p, 4, none⟩ = some (.int .i64 (s 4)) := (cell_of h1 4).trans rfl
  have d5 : W1.cell? ⟨p, 5, none⟩ = some (.int .i64 (s 5)) := (cell_of h1 5).trans rfl
  have d6 : W1.cell? ⟨p, 6, none⟩ = some (.int .i64 (s 6)) := (cell_of h1 6).trans rfl
  have d7 : W1.cell? ⟨p, 7, none⟩ = some (.int .i64 (s 7)) := (cell_of h1 7).trans rfl
  clear hW1 hp h1 b1
  go_upto_region 2 with (first
    | (go_at_call 33; refine (HCF.out _).mono ?_; rintro e w2 ⟨g, hg, rfl, hb2⟩
       have HG := Lib.hid hg
       have HB2 := Lib.hid (HB1.out.trans (hb2.mono HB1.out.size))
       clear hg hb2
       unfold eight)
    | fail)
  clear d0 d1 d2 d3 d4 d5 d6 d7 HCF
  obtain ⟨W3, hW3⟩ : ∃ W3 : World, W3 = w2.alloc (.cells #[.int .i64 (g 0 : Nat), .int .i64 (g 1 : Nat), .int .i64 (g 2 : Nat), .int .i64 (g 3 : Nat), .int .i64 (g 4 : Nat), .int .i64 (g 5 : Nat), .int .i64 (g 6 : Nat), .int .i64 (g 7 : Nat)] 72) := ⟨_, rfl⟩
  obtain ⟨r, hr⟩ : ∃ r, r = w2.heap.size := ⟨_, rfl⟩
  have h3 : W3.heap[r]? = some (.cells #[.int .i64 (g 0 : Nat), .int .i64 (g 1 : Nat), .int .i64 (g 2 : Nat), .int .i64 (g 3 : Nat), .int .i64 (g 4 : Nat), .int .i64 (g 5 : Nat), .int .i64 (g 6 : Nat), .int .i64 (g 7 : Nat)] 72 (0, 0)) := by rw [hW3, hr]; exact heap_alloc_new w2 _
  have b3 : Below w.heap.size w W3 := by rw [hW3]; exact HB2.out.trans ((below_alloc w2 _).mono HB2.out.size)
  have hrl : w.heap.size ≤ r ∧ r < W3.heap.size := ⟨by rw [hr]; exact HB2.out.size, lt_of_heap h3⟩
  rw [← hW3, ← hr]
  have HB3 := Lib.hid b3
  have HRL := Lib.hid hrl
  have HR3 := Lib.hid h3
  have d0 : W3.cell? ⟨r, 0, none⟩ = some (.int .i64 (g 0 : Nat)) := (cell_of h3 0).trans rfl
  have d1 : W3.cell? ⟨r, 1, none⟩ = some (.int .i64 (g 1 : Nat)) := (cell_of h3 1).trans rfl
  have d2 : W3.cell? ⟨r, 2, none⟩ = some (.int .i64 (g 2 : Nat)) := (cell_of h3 2).trans rfl
  have d3 : W3.cell? ⟨r, 3, none⟩ = some (.int .i64 (g 3 : Nat)) := (cell_of h3 3).trans rfl
  have d4 : W3.cell? ⟨r, 4, none⟩ = some (.int .i64 (g 4 : Nat)) := (cell_of h3 4).trans rfl
  have d5 : W3.cell? ⟨r, 5, none⟩ = some (.int .i64 (g 5 : Nat)) := (cell_of h3 5).trans rfl
  have d6 : W3.cell? ⟨r, 6, none⟩ = some (.int .i64 (g 6 : Nat)) := (cell_of h3 6).trans rfl
  have d7 : W3.cell? ⟨r, 7, none⟩ = some (.int .i64 (g 7 : Nat)) := (cell_of h3 7).trans rfl
  clear hW3 hr h3 b3 hrl
  have HNW : Hid (Calls Try.prog 34 #[.agg #[.int .i64 (g 0 : Nat), .int .i64 (g 1 : Nat), .int .i64 (g 2 : Nat), .int .i64 (g 3 : Nat), .int .i64 (g 4 : Nat), .int .i64 (g 5 : Nat), .int .i64 (g 6 : Nat), .int .i64 (g 7 : Nat)]] W3 fun e w' => ∃ b, e = .returned (.tuple #[.pointer (some ⟨b, 0, none⟩), .int .i64 0]) ∧ NewM g W3 b w') := Lib.hid (mem_new g HG.out W3)
  go_upto_region 5 with (first
    | (go_at_call 34; refine HNW.out.mono ?_; rintro e w4 ⟨b, rfl, hnew⟩
       have HNM := Lib.hid hnew
       clear hnew)
    | fail)
  clear d0 d1 d2 d3 d4 d5 d6 d7 HNW
  obtain ⟨B, S, E, R, K, sl, P, I, V, xs, i0, hmm, hb4, hi0, hic, hig, hil, hiw, hfr, hcn⟩ := HNM.out
  have HST : Hid (ST w.heap.size w W3.heap.size b B S E R (g 5) K 1 (g 6 : Nat) (refV (i0 : Nat) (1 : Nat) false) sl P I V xs w4) := Lib.hid ⟨hmm, HB3.out.trans (hb4.mono HB3.out.size), HB3.out.size, Nat.le_trans HB3.out.size hb4.size⟩
  have HSL : Hid (SL sl i0 4 1 root0) := Lib.hid ⟨hi0, hic, hig, hil, hiw⟩
  have HFR := Lib.hid hfr
  have HCN := Lib.hid hcn
  have HRF : Hid (¬ Foot B S 5 sl P I V r) := Lib.hid (fun hf => by have := (hmm.ar.foot hf).1; have := hmm.ar.NS; have := HRL.out; omega)
  have HR4 := Lib.hid ((hb4.block r HRL.out.2).trans HR3.out)
  have HS4 := Lib.hid hb4.size
  have hk5 : 1 ≤ g 5 ∧ g 5 ≤ 4 := HG.out 5 (by omega)
  clear HNM hmm hb4 hi0 hic hig hil hiw hfr hcn
  obtain ⟨k1, hk1⟩ : ∃ k1, k1 = g 5 - 1 := ⟨_, rfl⟩
  have hki : ((g 5 : Nat) : Int) - 1 = (k1 : Nat) := by omega
  obtain ⟨j, hj, hjl⟩ := withinV_nat cl (k1 + 1) (by omega)
  have hj5 : j < g 5 := by omega
  have HWC : Hid (∀ W, Calls Try.prog 21 #[.int .i64 cl, .int .i64 0, .int .i64 (k1 : Nat)] W fun e w' => e = .returned (.int .i64 (j : Nat)) ∧ W = w') := Lib.hid (fun W => by
    have := within_any cl (k1 : Nat) (by omega) (by omega) W
    rw [show ((k1 : Nat) : Int) + 1 = ((k1 + 1 : Nat) : Int) from by omega, hj] at this
    exact this)
  have d5 : w4.cell? ⟨r, 5, none⟩ = some (.int .i64 (g 5 : Nat)) := (cell_of HR4.out 5).trans rfl
  obtain ⟨root, hroot⟩ : ∃ root, root = refV (i0 : Nat) (1 : Nat) false := ⟨_, rfl⟩
  rw [← hroot] at HST
  have HRO := Lib.hid hroot
  clear hk1 hj hjl hroot
  go_upto_region 6 with (first
    | (go_at_call 21; refine (HWC.out _).mono ?_; rintro e w9 ⟨rfl, hh⟩; subst w9)
    | fail)
  clear d5 HR4 HRF
  go_upto_region 7 with (first
    | (go_at_call 39; refine (root_any HST.out.mm).mono ?_; rintro e w9 ⟨rfl, hh⟩; subst w9)
    | (go_at_call 35; refine (do_free_root HST.out.mm j hj5 0 0 0 none 0 0).mono ?_
       rintro e w5 ⟨rfl, hb5⟩
       have HB5 := Lib.hid hb5
       clear hb5
       unfold resV)
    | fail)
  obtain ⟨W6, hW6⟩ : ∃ W6 : World, W6 = w5.alloc (.cells #[.int .i64 1, .int .i64 0, .bool false, .slice none 0 0] 80) := ⟨_, rfl⟩
  obtain ⟨t, ht⟩ : ∃ t, t = w5.heap.size := ⟨_, rfl⟩
  have hbW6 : W6.heap[t]? = some (.cells #[.int .i64 1, .int .i64 0, .bool false, .slice none 0 0] 80 (0, 0)) := by rw [hW6, ht]; exact heap_alloc_new w5 _
  have hlW6 : Below w5.heap.size w5 W6 := by rw [hW6]; exact below_alloc w5 _
  rw [← hW6, ← ht]
  clear hW6 ht
  have HST6 := Lib.hid (HST.out.on (HB5.out.trans (hlW6.mono HB5.out.size)))
  have HT6 := Lib.hid hbW6
  clear hbW6 hlW6 HB5 HST
  go_upto_region 8 with (first
    | (go_at_call 39; refine (root_any HST6.out.mm).mono ?_; rintro e w9 ⟨rfl, hh⟩; subst w9)
    | (go_at_call 35; refine (do_retire_root HST6.out.mm j hj5 0 0 0 none 0 0).mono ?_
       rintro e w7 ⟨rfl, hb7⟩
       have HB7 := Lib.hid hb7
       clear hb7
       unfold resV)
    | fail)
  obtain ⟨W8, hW8⟩ : ∃ W8 : World, W8 = w7.alloc (.cells #[.int .i64 1, .int .i64 0, .bool false, .slice none 0 0] 80) := ⟨_, rfl⟩
  obtain ⟨u, hu⟩ : ∃ u, u = w7.heap.size := ⟨_, rfl⟩
  have hbW8 : W8.heap[u]? = some (.cells #[.int .i64 1, .int .i64 0, .bool false, .slice none 0 0] 80 (0, 0)) := by rw [hW8, hu]; exact heap_alloc_new w7 _
  have hlW8 : Below w7.heap.size w7 W8 := by rw [hW8]; exact below_alloc w7 _
  rw [← hW8, ← hu]
  clear hW8 hu
  have hb68 : Below W6.heap.size W6 W8 := HB7.out.trans (hlW8.mono HB7.out.size)
  have HST8 := Lib.hid (HST6.out.on hb68)
  have HT8 := Lib.hid ((hb68.block t (lt_of_heap HT6.out)).trans HT6.out)
  have HU8 := Lib.hid hbW8
  clear hbW8 hlW8 HB7 HST6 HT6 hb68
  go_upto_region 9 with (first
    | (go_at_call 39; refine (root_any HST8.out.mm).mono ?_; rintro e w9 ⟨rfl, hh⟩; subst w9)
    | (go_at_call 35; rw [HRO.out]; refine (do_load HST8.out.mm (by omega) j hj5 0 0 0 none 0 0 HSL.out).mono ?_
       rintro e w9 ⟨gl, rfl, hgl, hge, hb9⟩
       have HGL := Lib.hid hgl
       have HB9 := Lib.hid hb9
       have HGE := Lib.hid hge
       clear hgl hb9 hge
       unfold resV)
    | fail)
  obtain ⟨W10, hW10⟩ : ∃ W10 : World, W10 = w9.alloc (.cells #[.int .i64 0, .int .i64 0, .bool false, .slice (some ⟨gl, 0, none⟩) (szN 4) (szN 4)] 80) := ⟨_, rfl⟩
  obtain ⟨v, hv⟩ : ∃ v, v = w9.heap.size := ⟨_, rfl⟩
  have hbW10 : W10.heap[v]? = some (.cells #[.int .i64 0, .int .i64 0, .bool false, .slice (some ⟨gl, 0, none⟩) (szN 4) (szN 4)] 80 (0, 0)) := by rw [hW10, hv]; exact heap_alloc_new w9 _
  have hlW10 : Below w9.heap.size w9 W10 := by rw [hW10]; exact below_alloc w9 _
  rw [← hW10, ← hv]
  clear hW10 hv
  have hb8 : Below W8.heap.size W8 W10 := HB9.out.trans (hlW10.mono HB9.out.size)
  have HST10 := Lib.hid (HST8.out.on hb8)
  have HT10 := Lib.hid ((hb8.block t (lt_of_heap HT8.out)).trans HT8.out)
  have HU10 := Lib.hid ((hb8.block u (lt_of_heap HU8.out)).trans HU8.out)
  have HG10 := Lib.hid ((hlW10.block gl (lt_of_heap HGL.out)).trans HGL.out)
  have HLT : Hid (t < W8.heap.size ∧ u < W8.heap.size ∧ W8.heap.size ≤ gl ∧ gl ≠ v ∧ b < W8.heap.size ∧ E < W8.heap.size ∧ R < W8.heap.size ∧ ∀ a, Foot B S 5 sl P I V a → a < W8.heap.size) := Lib.hid (by
    obtain ⟨l1, l2, l3, l4⟩ := HST8.out.mm.lts
    have hgv : gl ≠ v := fun e => by
      have h1 := HG10.out
      rw [e, hbW10] at h1
      injection h1 with h1
      injection h1 with h2 h3
      cases h3
    exact ⟨lt_of_heap HT8.out, lt_of_heap HU8.out, HGE.out, hgv, l1, l2, l3, l4⟩)
  have HV10 := Lib.hid hbW10
  have v3 : W10.cell? ⟨v, 3, none⟩ = some (.slice (some ⟨gl, 0, none⟩) 264 264) := (cell_of hbW10 3).trans rfl
  clear hbW10 hlW10 HB9 HGL HGE HT8 HU8 HST8 hb8
  go_upto_region 10 with (first
    | (go_at_call 40; refine (dec0 HG10.out).mono ?_
       rintro e w11 ⟨bs, A1, c1, A2, c2, rfl, hbs, hal⟩
       have hbn := ba_nil hbs
       subst hbn
       have HAL := Lib.hid hal
       clear hbs hal v3)
    | fail)
  obtain ⟨W12, hW12⟩ : ∃ W12 : World, W12 = w11.alloc (.cells #[.int .i64 4, .int .u64 0, .string ⟨#[]⟩, .slice A1 0 c1, .slice A2 0 c2] 85) := ⟨_, rfl⟩
  obtain ⟨z, hz⟩ : ∃ z, z = w11.heap.size := ⟨_, rfl⟩
  have hbW12 : W12.heap[z]? = some (.cells #[.int .i64 4, .int .u64 0, .string ⟨#[]⟩, .slice A1 0 c1, .slice A2 0 c2] 85 (0, 0)) := by rw [hW12, hz]; exact heap_alloc_new w11 _
  have hlW12 : Below w11.heap.size w11 W12 := by rw [hW12]; exact below_alloc w11 _
  rw [← hW12, ← hz]
  clear hW12 hz
  have hx : ∀ a o, W10.heap[a]? = some o → a ≠ gl → W12.heap[a]? = some o := fun a o h1 h2 => (hlW12.block a (by have := lt_of_heap h1; have := HAL.out.size; omega)).trans ((HAL.out.block a (lt_of_heap h1) (by omega)).trans h1)
  have h12 := HLT.out
  have HST12 := Lib.hid ((HST10.out.al HAL.out (fun a hf => by have := h12.2.2.2.2.2.2.2 a hf; omega) (by omega) (by omega) (by omega) (by have := HST10.out.MN; have := HST10.out.mm.ar.NS; have := HST10.out.mm.ar.SB; have := HST10.out.mm.ar.ltB; have h9 := h12.2.2.2.2.2.2.2 B (.inl rfl); omega)).on hlW12)
  have t12 := hx t _ HT10.out (by omega)
  have u12 := hx u _ HU10.out (by omega)
  have v12 := hx v _ HV10.out (fun e => h12.2.2.2.1 e.symm)
  have t0 : W12.cell? ⟨t, 0, none⟩ = some (.int .i64 1) := (cell_of t12 0).trans rfl
  have u0 : W12.cell? ⟨u, 0, none⟩ = some (.int .i64 1) := (cell_of u12 0).trans rfl
  have v0 : W12.cell? ⟨v, 0, none⟩ = some (.int .i64 0) := (cell_of v12 0).trans rfl
  have z0 : W12.cell? ⟨z, 0, none⟩ = some (.int .i64 4) := (cell_of hbW12 0).trans rfl
  have z1 : W12.cell? ⟨z, 1, none⟩ = some (.int .u64 0) := (cell_of hbW12 1).trans rfl
  have z2 : W12.cell? ⟨z, 2, none⟩ = some (.string ⟨#[]⟩) := (cell_of hbW12 2).trans rfl
  have z3 : W12.cell? ⟨z, 3, none⟩ = some (.slice A1 0 c1) := (cell_of hbW12 3).trans rfl
  have hone : ((sl.length : Nat) : Int) - (freeN xs 5 : Nat) = 1 := by have := HFR.out; omega
  have HLV : Hid (Calls Try.prog 36 #[.pointer (some ⟨b, 0, none⟩)] W12 fun e w' => e = .returned (.int .i64 1) ∧ w' = W12) := Lib.hid (by
    have h1 := mlive_any HST12.out.mm (by have := HFR.out; have := HST12.out.mm.len; omega)
    rw [hone] at h1; exact h1)
  have HLM := Lib.hid (mlimbo_any HST12.out.mm j hj5)
  clear hone hx h12 t12 u12 v12 hbW12 hlW12 HAL
  go_wp2_with (first
    | (go_at_call 36; refine HLV.out.mono ?_; rintro e w9 ⟨rfl, hh⟩; subst w9)
    | (go_at_call 41; refine HLM.out.mono ?_; rintro e w9 ⟨rfl, hh⟩; subst w9)
    | (go_at_call 38; refine (memRuns_any _).mono ?_; rintro e w14 ⟨rfl, hb14⟩)
    | fail)
  go_ret
  exact ⟨rfl, HST12.out.bel.trans (hb14.mono HST12.out.M0)⟩
end Go.Proofs.Ytndmpdpmfieacaa
