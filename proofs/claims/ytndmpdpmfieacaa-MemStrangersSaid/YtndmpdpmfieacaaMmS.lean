/-
  MemStrangers at any configuration, client and access; conditions: lengths.
-/
import Derived.Test.YtndmpdpmfieacaaMmR
namespace Go.Proofs.Ytndmpdpmfieacaa
open Go.RowKit Go.WideShapes Go.ChangeShapes
set_option linter.all false
theorem ST.alo {M : Nat} {w0 w w' : World} {N b B S E R k K G : Nat} {lim root : Int} {sl : List Sl} {P I : Nat → Nat} {V : Nat → Value} {xs : Nat → List Int} (h : ST M w0 N b B S E R k K G lim root sl P I V xs w) {q : Nat} (ha : Al q (q + 1) w w') (hq : ∀ a, Foot B S 5 sl P I V a → a < q ∨ q + 1 ≤ a) (h1 : b ≠ q) (h2 : E ≠ q) (h3 : R ≠ q) (hM : M ≤ q) : ST M w0 N b B S E R k K G lim root sl P I V xs w' :=
  ⟨h.mm.al ha hq (by omega) (by omega) (by omega), ha.below h.bel hM h.M0, h.MN, Nat.le_trans h.M0 ha.size⟩
set_option maxRecDepth 100000 in
set_option maxHeartbeats 6400000 in
theorem str_law (s : Nat → Int) (cl kd rf ac n was : Int) (A : Option Addr) (m c : Nat) (ws : List Int) (hmc : m ≤ c) (w : World) (hrd : Reads w w.heap.size 1 A m (wv ws)) : Calls Try.prog 8 #[.agg (eight s), .int .i64 cl, accV kd rf ac n was A m c] w fun e w' => e = .returned (.bool true) ∧ Below w.heap.size w w' := by
  obtain ⟨j, hj, hj10⟩ := withinV_nat cl 10 (by omega)
  have HWN : Hid (∀ W, Calls Try.prog 21 #[.int .i64 cl, .int .i64 0, .int .i64 9] W fun e w' => e = .returned (.int .i64 (j : Nat)) ∧ W = w') := Lib.hid (fun W => by
    have := within_any cl 9 (by omega) (by omega) W
    rw [show ((9 : Int) + 1) = ((10 : Nat) : Int) from rfl, hj] at this
    exact this)
  have hAs : 20 < m → ∃ ad, A = some ad := fun h => by obtain ⟨ad, e, _⟩ := hrd.2 (by omega); exact ⟨ad, e⟩
  have HAS := Lib.hid hAs
  clear hj hrd hAs
  unfold accV
  have HCF : Hid (∀ W, Calls Try.prog 33 #[.agg #[.int .i64 (s 0), .int .i64 (s 1), .int .i64 (s 2), .int .i64 (s 3), .int .i64 (s 4), .int .i64 (s 5), .int .i64 (s 6), .int .i64 (s 7)]] W fun e w' => ∃ g : Nat → Nat, CfgOk g ∧ e = .returned (.agg (eight fun i => (g i : Nat))) ∧ Below W.heap.size W w') := Lib.hid (fun W => cfg_any s W)
  unfold eight
  go_enter Try.func8, Try.ntmps8
  go_upto_region 1 with (fail)
  obtain ⟨W0, hW0⟩ : ∃ W0 : World, W0 = w.alloc (.cells #[.int .i64 (s 0), .int .i64 (s 1), .int .i64 (s 2), .int .i64 (s 3), .int .i64 (s 4), .int .i64 (s 5), .int .i64 (s 6), .int .i64 (s 7)] 72) := ⟨_, rfl⟩
  obtain ⟨W1, hW1⟩ : ∃ W1 : World, W1 = W0.alloc (.cells #[.int .i64 kd, .int .i64 rf, .int .i64 ac, .int .i64 n, .int .u64 was, .slice A m c] 74) := ⟨_, rfl⟩
  obtain ⟨p, hp⟩ : ∃ p, p = w.heap.size := ⟨_, rfl⟩
  obtain ⟨pa, hpa⟩ : ∃ pa, pa = w.heap.size + 1 := ⟨_, rfl⟩
  have hs0 : W0.heap.size = w.heap.size + 1 := by rw [hW0]; simp
  have h0 : W0.heap[p]? = some (.cells #[.int .i64 (s 0), .int .i64 (s 1), .int .i64 (s 2), .int .i64 (s 3), .int .i64 (s 4), .int .i64 (s 5), .int .i64 (s 6), .int .i64 (s 7)] 72 (0, 0)) := by rw [hW0, hp]; exact heap_alloc_new w _
  have h1 : W1.heap[p]? = some (.cells #[.int .i64 (s 0), .int .i64 (s 1), .int .i64 (s 2), .int .i64 (s 3), .int .i64 (s 4), .int .i64 (s 5), .int .i64 (s 6), .int .i64 (s 7)] 72 (0, 0)) := by rw [hW1]; exact ((below_alloc W0 _).block p (lt_of_heap h0)).trans h0
  have hA1 : W1.heap[pa]? = some (.cells #[.int .i64 kd, .int .i64 rf, .int .i64 ac, .int .i64 n, .int .u64 was, .slice A m c] 74 (0, 0)) := by rw [hW1, hpa, ← hs0]; exact heap_alloc_new W0 _
  have b1 : Below w.heap.size w W1 := by rw [hW1, hW0]; exact (below_alloc w _).trans ((below_alloc _ _).mono (below_alloc w _).size)
  rw [← hW0, ← hW1, ← hpa, ← hp]
  have HA1 := Lib.hid hA1
  have HPA : Hid (w.heap.size ≤ pa) := Lib.hid (by omega)
  clear hs0 h0 hA1 hpa hW0
  have HB1 := Lib.hid b1
  have d0 : W1.cell? ⟨p, 0, none⟩ = some (.int .i64 (s 0)) := (cell_of h1 0).trans rfl
  have d1 : W1.cell? ⟨p, 1, none⟩ = some (.int .i64 (s 1)) := (cell_of h1 1).trans rfl
  have d2 : W1.cell? ⟨p, 2, none⟩ = some (.int .i64 (s 2)) := (cell_of h1 2).trans rfl
  have d3 : W1.cell? ⟨p, 3, none⟩ = some (.int .i64 (s 3)) := (cell_of h1 3).trans rfl
  have d4 : W1.cell? ⟨p, 4, none⟩ = some (.int .i64 (s 4)) := (cell_of h1 4).trans rfl
  have d5 : W1.cell? ⟨p, 5, none⟩ = some (.int .i64 (s 5)) := (cell_of h1 5).trans rfl
  have d6 : W1.cell? ⟨p, 6, none⟩ = some (.int .i64 (s 6)) := (cell_of h1 6).trans rfl
  have d7 : W1.cell? ⟨p, 7, none⟩ = some (.int .i64 (s 7)) := (cell_of h1 7).trans rfl
  clear hW1 hp h1 b1
  go_upto_region 2 with (first
    | (go_at_call 33; refine (HCF.out _).mono ?_; rintro e w2 ⟨g, hg, rfl, hb2⟩
       have HG := Lib.hid hg
       have HA2 := Lib.hid ((hb2.block pa (lt_of_heap HA1.out)).trans HA1.out)
       have HB2 := Lib.hid (HB1.out.trans (hb2.mono HB1.out.size))
       clear hg hb2
       unfold eight)
    | fail)
  clear d0 d1 d2 d3 d4 d5 d6 d7 HCF
  obtain ⟨W3, hW3⟩ : ∃ W3 : World, W3 = w2.alloc (.cells #[.int .i64 (g 0 : Nat), .int .i64 (g 1 : Nat), .int .i64 (g 2 : Nat), .int .i64 (g 3 : Nat), .int .i64 (g 4 : Nat), .int .i64 (g 5 : Nat), .int .i64 (g 6 : Nat), .int .i64 (g 7 : Nat)] 72) := ⟨_, rfl⟩
  obtain ⟨r, hr⟩ : ∃ r, r = w2.heap.size := ⟨_, rfl⟩
  have h3 : W3.heap[r]? = some (.cells #[.int .i64 (g 0 : Nat), .int .i64 (g 1 : Nat), .int .i64 (g 2 : Nat), .int .i64 (g 3 : Nat), .int .i64 (g 4 : Nat), .int .i64 (g 5 : Nat), .int .i64 (g 6 : Nat), .int .i64 (g 7 : Nat)] 72 (0, 0)) := by rw [hW3, hr]; exact heap_alloc_new w2 _
  have b3 : Below w.heap.size w W3 := by rw [hW3]; exact HB2.out.trans ((below_alloc w2 _).mono HB2.out.size)
  have hrl : w.heap.size ≤ r ∧ r < W3.heap.size := ⟨by rw [hr]; exact HB2.out.size, lt_of_heap h3⟩
  rw [← hW3, ← hr]
  have HB3 := Lib.hid b3
  have HRL := Lib.hid hrl
  have HR3 := Lib.hid h3
  have d0 : W3.cell? ⟨r, 0, none⟩ = some (.int .i64 (g 0 : Nat)) := (cell_of h3 0).trans rfl
  have d1 : W3.cell? ⟨r, 1, none⟩ = some (.int .i64 (g 1 : Nat)) := (cell_of h3 1).trans rfl
  have d2 : W3.cell? ⟨r, 2, none⟩ = some (.int .i64 (g 2 : Nat)) := (cell_of h3 2).trans rfl
  have d3 : W3.cell? ⟨r, 3, none⟩ = some (.int .i64 (g 3 : Nat)) := (cell_of h3 3).trans rfl
  have d4 : W3.cell? ⟨r, 4, none⟩ = some (.int .i64 (g 4 : Nat)) := (cell_of h3 4).trans rfl
  have d5 : W3.cell? ⟨r, 5, none⟩ = some (.int .i64 (g 5 : Nat)) := (cell_of h3 5).trans rfl
  have d6 : W3.cell? ⟨r, 6, none⟩ = some (.int .i64 (g 6 : Nat)) := (cell_of h3 6).trans rfl
  have d7 : W3.cell? ⟨r, 7, none⟩ = some (.int .i64 (g 7 : Nat)) := (cell_of h3 7).trans rfl
  have HA3 : Hid (W3.heap[pa]? = some (.cells #[.int .i64 kd, .int .i64 rf, .int .i64 ac, .int .i64 n, .int .u64 was, .slice A m c] 74 (0, 0))) := Lib.hid (by rw [hW3]; exact ((below_alloc w2 _).block pa (lt_of_heap HA2.out)).trans HA2.out)
  clear hW3 hr h3 b3 hrl HA1 HA2
  have HNW : Hid (Calls Try.prog 34 #[.agg #[.int .i64 (g 0 : Nat), .int .i64 (g 1 : Nat), .int .i64 (g 2 : Nat), .int .i64 (g 3 : Nat), .int .i64 (g 4 : Nat), .int .i64 (g 5 : Nat), .int .i64 (g 6 : Nat), .int .i64 (g 7 : Nat)]] W3 fun e w' => ∃ b, e = .returned (.tuple #[.pointer (some ⟨b, 0, none⟩), .int .i64 0]) ∧ NewM g W3 b w') := Lib.hid (mem_new g HG.out W3)
  go_upto_region 5 with (first
    | (go_at_call 34; refine HNW.out.mono ?_; rintro e w4 ⟨b, rfl, hnew⟩
       have HNM := Lib.hid hnew
       clear hnew)
    | fail)
  clear d0 d1 d2 d3 d4 d5 d6 d7 HNW
  obtain ⟨B, S, E, R, K, sl, P, I, V, xs, i0, hmm, hb4, hi0, hic, hig, hil, hiw, hfr, hcn⟩ := HNM.out
  have HST : Hid (ST w.heap.size w W3.heap.size b B S E R (g 5) K 1 (g 6 : Nat) (refV (i0 : Nat) (1 : Nat) false) sl P I V xs w4) := Lib.hid ⟨hmm, HB3.out.trans (hb4.mono HB3.out.size), HB3.out.size, Nat.le_trans HB3.out.size hb4.size⟩
  have HSL : Hid (SL sl i0 4 1 root0) := Lib.hid ⟨hi0, hic, hig, hil, hiw⟩
  have HFR := Lib.hid hfr
  have HCN := Lib.hid hcn
  have HRF : Hid (¬ Foot B S 5 sl P I V r) := Lib.hid (fun hf => by have := (hmm.ar.foot hf).1; have := hmm.ar.NS; have := HRL.out; omega)
  have HR4 := Lib.hid ((hb4.block r HRL.out.2).trans HR3.out)
  have HS4 := Lib.hid hb4.size
  have hk5 : 1 ≤ g 5 ∧ g 5 ≤ 4 := HG.out 5 (by omega)
  have hA3 : W3.heap[pa]? = some (.cells #[.int .i64 kd, .int .i64 rf, .int .i64 ac, .int .i64 n, .int .u64 was, .slice A m c] 74 (0, 0)) := HA3.out
  have HA4 := Lib.hid ((hb4.block pa (lt_of_heap hA3)).trans hA3)
  have HPF : Hid (¬ Foot B S 5 sl P I V pa) := Lib.hid (fun hf => by have := (hmm.ar.foot hf).1; have := hmm.ar.NS; have := lt_of_heap hA3; omega)
  clear hA3 HNM hmm hb4 hi0 hic hig hil hiw hfr hcn
  have HPE : Hid (E ≠ pa ∧ R ≠ pa) := Lib.hid ⟨fun e => (by have h1 := HST.out.mm.ep.c2; rw [e, cell_of HA4.out] at h1; injection h1 with h1; cases h1), fun e => (by have h1 := HST.out.mm.ep.lists 0 (by omega); rw [e, cell_of HA4.out] at h1; injection h1 with h1; cases h1)⟩
  have a5 : w4.cell? ⟨pa, 5, none⟩ = some (.slice A m c) := (cell_of HA4.out 5).trans rfl
  have f5 := frozen_of HA4.out 5
  by_cases hm : (m : Int) > 20
  · obtain ⟨ad, rfl⟩ := HAS.out (by omega)
    have h20c : 20 ≤ c := by omega
    go_upto_region 7 with (fail)
    obtain ⟨w5, hw5⟩ : ∃ w5 : World, w5 = w4.setCell ⟨pa, 5, none⟩ (.slice (some ad) 20 c) := ⟨_, rfl⟩
    have hA5 : w5.heap[pa]? = some (.cells #[.int .i64 kd, .int .i64 rf, .int .i64 ac, .int .i64 n, .int .u64 was, .slice (some ad) 20 c] 74 (0, 0)) := by rw [hw5]; exact heap_setCell_same _ _ 5 _ _ _ HA4.out
    have hal5 : Al pa (pa + 1) w4 w5 := by rw [hw5]; exact (Al.refl _ _ _).set (a := ⟨pa, 5, none⟩) (Nat.le_refl _) (Nat.lt_succ_self _) _
    have hpb : b ≠ pa := fun e => (by have h1 := HST.out.mm.box; rw [e, HA4.out] at h1; injection h1 with h1; injection h1 with h2 h3; cases h3)
    have hpr : r ≠ pa := fun e => (by have h1 := HR4.out; rw [e, HA4.out] at h1; injection h1 with h1; injection h1 with h2 h3; cases h3)
    have HST5 := Lib.hid (HST.out.alo hal5 (fun a hf => by have : a ≠ pa := fun e => HPF.out (e ▸ hf); omega) hpb HPE.out.1 HPE.out.2 HPA.out)
    have HR5 := Lib.hid ((hal5.block r (lt_of_heap HR4.out) (by omega)).trans HR4.out)
    have HA5 := Lib.hid hA5
    rw [← hw5]
    clear hw5 hA5 hal5 hpb hpr HST HA4 HR4 a5 f5
    generalize (some ad) = A at *
    have HSA5 : Hid (SA r pa (g 5) kd rf ac n was A 20 c w5) := Lib.hid ⟨(cell_of HA5.out 0).trans rfl, (cell_of HA5.out 1).trans rfl, (cell_of HA5.out 2).trans rfl, (cell_of HA5.out 3).trans rfl, (cell_of HA5.out 4).trans rfl, (cell_of HA5.out 5).trans rfl, (cell_of HR5.out 5).trans rfl⟩
    go_upto_region 7 with (fail)
    try simp only [List.append_eq, List.cons_append, List.nil_append]
    refine regs7 (k := g 5) HSA5.out HWN.out hj10 hk5.2 (fun W hb => do_out (HST5.out.on hb).mm (-1 - (j : Nat)) (.inl (by omega)) kd rf ac n was A 20 c) (by intro _ _ _ _ _ h; exact h) ?_
    intro v34 v35 v36 v37 v38 v39 tb w6 hb6 htb hge
    have HST6 := Lib.hid (HST5.out.on hb6)
    have HSA6 := Lib.hid (HSA5.out.on hb6)
    have HA6 := Lib.hid ((hb6.block pa (lt_of_heap HA5.out)).trans HA5.out)
    have HTB := Lib.hid htb
    clear hb6 htb hge HST5 HSA5 HA5 HR5
    go_upto_region 8 with (fail)
    try simp only [List.append_eq, List.cons_append, List.nil_append]
    refine regs8 (k := g 5) HSA6.out HWN.out hj10 hk5.2 (fun W hb => do_out (HST6.out.on hb).mm ((g 5 : Nat) + (j : Nat)) (.inr (by omega)) kd rf ac n was A 20 c) (by intro _ _ _ _ _ h; exact h) ?_
    intro v40 v41 v42 v43 v44 v45 v46 v47 ub w7 hb7 hub hge
    have HST7 := Lib.hid (HST6.out.on hb7)
    have hA7 := (hb7.block pa (lt_of_heap HA6.out)).trans HA6.out
    have HT7 := Lib.hid ((hb7.block tb (lt_of_heap HTB.out)).trans HTB.out)
    have HU7 := Lib.hid hub
    have a0 : w7.cell? ⟨pa, 0, none⟩ = some (.int .i64 kd) := (cell_of hA7 0).trans rfl
    have f0 := frozen_of hA7 0
    have HA7 := Lib.hid hA7
    obtain ⟨nk, hnk⟩ : ∃ nk, nk = IntKind.i64.wrap (-kd) := ⟨_, rfl⟩
    have hnk2 := hnk.symm
    have HPT : Hid (pa ≠ tb ∧ pa ≠ ub) := Lib.hid ⟨fun e => (by have h1 := HT7.out; rw [← e, hA7] at h1; injection h1 with h1; injection h1 with h2 h3; cases h3), fun e => (by have h1 := hub; rw [← e, hA7] at h1; injection h1 with h1; injection h1 with h2 h3; cases h3)⟩
    clear hb7 hub hge hA7 HST6 HSA6 HA6 HTB hnk
    go_upto_region 10 with (fail)
    clear a0
    obtain ⟨w8, hw8⟩ : ∃ w8 : World, w8 = w7.setCell ⟨pa, 0, none⟩ (.int .i64 nk) := ⟨_, rfl⟩
    have hA8 : w8.heap[pa]? = some (.cells #[.int .i64 nk, .int .i64 rf, .int .i64 ac, .int .i64 n, .int .u64 was, .slice A 20 c] 74 (0, 0)) := by rw [hw8]; exact heap_setCell_same _ _ 0 _ _ _ HA7.out
    have hM7 := HST7.out.M0
    have hal8 : Al pa (pa + 1) w7 w8 := by rw [hw8]; exact (Al.refl _ _ _).set (a := ⟨pa, 0, none⟩) (Nat.le_refl _) (Nat.lt_succ_self _) _
    have hpl := HST7.out.mm.lts
    have hpn : b ≠ pa ∧ E ≠ pa ∧ R ≠ pa := ⟨fun e => (by have h1 := HST7.out.mm.box; rw [e, HA7.out] at h1; injection h1 with h1; injection h1 with h2 h3; cases h3), HPE.out.1, HPE.out.2⟩
    have HST8 := Lib.hid (HST7.out.alo hal8 (fun a hf => by have : a ≠ pa := fun e => HPF.out (e ▸ hf); omega) hpn.1 hpn.2.1 hpn.2.2 HPA.out)
    have HT8 := Lib.hid ((hal8.block tb (lt_of_heap HT7.out) (by have := HPT.out; omega)).trans HT7.out)
    have HU8 := Lib.hid ((hal8.block ub (lt_of_heap HU7.out) (by have := HPT.out; omega)).trans HU7.out)
    have HA8 := Lib.hid hA8
    have a0 : w8.cell? ⟨pa, 0, none⟩ = some (.int .i64 nk) := (cell_of hA8 0).trans rfl
    have f0 := frozen_of hA8 0
    rw [← hw8]
    clear hw8 hA8 hM7 hal8 hpl hpn HST7 HT7 HU7 HA7
    by_cases hng : nk > 0
    · go_upto_region 12 with (fail)
      clear a0 f0
      obtain ⟨w10, hw10⟩ : ∃ w10 : World, w10 = w8.setCell ⟨pa, 0, none⟩ (.int .i64 99) := ⟨_, rfl⟩
      have hA10 : w10.heap[pa]? = some (.cells #[.int .i64 99, .int .i64 rf, .int .i64 ac, .int .i64 n, .int .u64 was, .slice A 20 c] 74 (0, 0)) := by rw [hw10]; exact heap_setCell_same _ _ 0 _ _ _ HA8.out
      have hal10 : Al pa (pa + 1) w8 w10 := by rw [hw10]; exact (Al.refl _ _ _).set (a := ⟨pa, 0, none⟩) (Nat.le_refl _) (Nat.lt_succ_self _) _
      have hpn : b ≠ pa ∧ E ≠ pa ∧ R ≠ pa := ⟨fun e => (by have h1 := HST8.out.mm.box; rw [e, HA8.out] at h1; injection h1 with h1; injection h1 with h2 h3; cases h3), HPE.out.1, HPE.out.2⟩
      have HSTz := Lib.hid (HST8.out.alo hal10 (fun a hf => by have : a ≠ pa := fun e => HPF.out (e ▸ hf); omega) hpn.1 hpn.2.1 hpn.2.2 HPA.out)
      have HTZ := Lib.hid ((hal10.block tb (lt_of_heap HT8.out) (by have := HPT.out; omega)).trans HT8.out)
      have HUZ := Lib.hid ((hal10.block ub (lt_of_heap HU8.out) (by have := HPT.out; omega)).trans HU8.out)
      have a0 : w10.cell? ⟨pa, 0, none⟩ = some (.int .i64 99) := (cell_of hA10 0).trans rfl
      have a1 : w10.cell? ⟨pa, 1, none⟩ = some (.int .i64 rf) := (cell_of hA10 1).trans rfl
      have a2 : w10.cell? ⟨pa, 2, none⟩ = some (.int .i64 ac) := (cell_of hA10 2).trans rfl
      have a3 : w10.cell? ⟨pa, 3, none⟩ = some (.int .i64 n) := (cell_of hA10 3).trans rfl
      have a4 : w10.cell? ⟨pa, 4, none⟩ = some (.int .u64 was) := (cell_of hA10 4).trans rfl
      have a5 : w10.cell? ⟨pa, 5, none⟩ = some (.slice A 20 c) := (cell_of hA10 5).trans rfl
      rw [← hw10]
      clear hw10 hA10 hal10 hpn HST8 HT8 HU8 HA8
      go_upto_region 13 with (first
        | (go_at_call 35; refine (do_bad HSTz.out.mm 0 (by omega) 99 rf ac n was A 20 c (.inr (by omega))).mono ?_
           rintro e w9 ⟨rfl, hb9⟩
           have HB9 := Lib.hid hb9
           clear hb9
           unfold resV)
        | fail)
      obtain ⟨Wz, hWz⟩ : ∃ Wz : World, Wz = w9.alloc (.cells #[.int .i64 1, .int .i64 0, .bool false, .slice none 0 0] 80) := ⟨_, rfl⟩
      obtain ⟨zb, hzb⟩ : ∃ zb, zb = w9.heap.size := ⟨_, rfl⟩
      have hz : Wz.heap[zb]? = some (.cells #[.int .i64 1, .int .i64 0, .bool false, .slice none 0 0] 80 (0, 0)) := by rw [hWz, hzb]; exact heap_alloc_new w9 _
      have hlz : Below w9.heap.size w9 Wz := by rw [hWz]; exact below_alloc w9 _
      rw [← hWz, ← hzb]
      clear hWz hzb
      have hb8z := HB9.out.trans (hlz.mono HB9.out.size)
      have HSTf := Lib.hid (HSTz.out.on hb8z)
      have htf := (hb8z.block tb (lt_of_heap HTZ.out)).trans HTZ.out
      have huf := (hb8z.block ub (lt_of_heap HUZ.out)).trans HUZ.out
      have t0 := (cell_of htf 0).trans (show _ = some (Value.int .i64 1) from rfl)
      have t1 := (cell_of htf 1).trans (show _ = some (Value.int .i64 0) from rfl)
      have t2 := (cell_of htf 2).trans (show _ = some (Value.bool false) from rfl)
      have t3 := (cell_of htf 3).trans (show _ = some (Value.slice none 0 0) from rfl)
      have u0 := (cell_of huf 0).trans (show _ = some (Value.int .i64 1) from rfl)
      have z0 := (cell_of hz 0).trans (show _ = some (Value.int .i64 1) from rfl)
      have z1 := (cell_of hz 1).trans (show _ = some (Value.int .i64 0) from rfl)
      have z2 := (cell_of hz 2).trans (show _ = some (Value.bool false) from rfl)
      have hone : ((sl.length : Nat) : Int) - (freeN xs 5 : Nat) = 1 := by have := HFR.out; omega
      have HLV : Hid (Calls Try.prog 36 #[.pointer (some ⟨b, 0, none⟩)] Wz fun e w' => e = .returned (.int .i64 1) ∧ w' = Wz) := Lib.hid (by
        have h1 := mlive_any HSTf.out.mm (by have := HFR.out; have := HSTf.out.mm.len; omega)
        rw [hone] at h1; exact h1)
      have HNO := Lib.hid (mnow_any HSTf.out.mm)
      clear hone htf huf hz hlz hb8z HB9 HSTz HTZ HUZ
      go_wp2_with (first
        | (go_at_call 36; refine HLV.out.mono ?_; rintro e w9 ⟨rfl, hh⟩; subst w9)
        | (go_at_call 37; refine HNO.out.mono ?_; rintro e w9 ⟨rfl, hh⟩; subst w9)
        | (go_at_call 38; refine (memRuns_any _).mono ?_; rintro e w14 ⟨rfl, hb14⟩)
        | fail)
      go_ret
      exact ⟨rfl, HSTf.out.bel.trans (hb14.mono HSTf.out.M0)⟩
    · have HSTz := HST8
      have HTZ := HT8
      have HUZ := HU8
      have a1 : w8.cell? ⟨pa, 1, none⟩ = some (.int .i64 rf) := (cell_of HA8.out 1).trans rfl
      have a2 : w8.cell? ⟨pa, 2, none⟩ = some (.int .i64 ac) := (cell_of HA8.out 2).trans rfl
      have a3 : w8.cell? ⟨pa, 3, none⟩ = some (.int .i64 n) := (cell_of HA8.out 3).trans rfl
      have a4 : w8.cell? ⟨pa, 4, none⟩ = some (.int .u64 was) := (cell_of HA8.out 4).trans rfl
      have a5 : w8.cell? ⟨pa, 5, none⟩ = some (.slice A 20 c) := (cell_of HA8.out 5).trans rfl
      clear HST8 HT8 HU8 HA8
      go_upto_region 13 with (first
        | (go_at_call 35; refine (do_bad HSTz.out.mm 0 (by omega) nk rf ac n was A 20 c (.inl (by omega))).mono ?_
           rintro e w9 ⟨rfl, hb9⟩
           have HB9 := Lib.hid hb9
           clear hb9
           unfold resV)
        | fail)
      obtain ⟨Wz, hWz⟩ : ∃ Wz : World, Wz = w9.alloc (.cells #[.int .i64 1, .int .i64 0, .bool false, .slice none 0 0] 80) := ⟨_, rfl⟩
      obtain ⟨zb, hzb⟩ : ∃ zb, zb = w9.heap.size := ⟨_, rfl⟩
      have hz : Wz.heap[zb]? = some (.cells #[.int .i64 1, .int .i64 0, .bool false, .slice none 0 0] 80 (0, 0)) := by rw [hWz, hzb]; exact heap_alloc_new w9 _
      have hlz : Below w9.heap.size w9 Wz := by rw [hWz]; exact below_alloc w9 _
      rw [← hWz, ← hzb]
      clear hWz hzb
      have hb8z := HB9.out.trans (hlz.mono HB9.out.size)
      have HSTf := Lib.hid (HSTz.out.on hb8z)
      have htf := (hb8z.block tb (lt_of_heap HTZ.out)).trans HTZ.out
      have huf := (hb8z.block ub (lt_of_heap HUZ.out)).trans HUZ.out
      have t0 := (cell_of htf 0).trans (show _ = some (Value.int .i64 1) from rfl)
      have t1 := (cell_of htf 1).trans (show _ = some (Value.int .i64 0) from rfl)
      have t2 := (cell_of htf 2).trans (show _ = some (Value.bool false) from rfl)
      have t3 := (cell_of htf 3).trans (show _ = some (Value.slice none 0 0) from rfl)
      have u0 := (cell_of huf 0).trans (show _ = some (Value.int .i64 1) from rfl)
      have z0 := (cell_of hz 0).trans (show _ = some (Value.int .i64 1) from rfl)
      have z1 := (cell_of hz 1).trans (show _ = some (Value.int .i64 0) from rfl)
      have z2 := (cell_of hz 2).trans (show _ = some (Value.bool false) from rfl)
      have hone : ((sl.length : Nat) : Int) - (freeN xs 5 : Nat) = 1 := by have := HFR.out; omega
      have HLV : Hid (Calls Try.prog 36 #[.pointer (some ⟨b, 0, none⟩)] Wz fun e w' => e = .returned (.int .i64 1) ∧ w' = Wz) := Lib.hid (by
        have h1 := mlive_any HSTf.out.mm (by have := HFR.out; have := HSTf.out.mm.len; omega)
        rw [hone] at h1; exact h1)
      have HNO := Lib.hid (mnow_any HSTf.out.mm)
      clear hone htf huf hz hlz hb8z HB9 HSTz HTZ HUZ
      go_wp2_with (first
        | (go_at_call 36; refine HLV.out.mono ?_; rintro e w9 ⟨rfl, hh⟩; subst w9)
        | (go_at_call 37; refine HNO.out.mono ?_; rintro e w9 ⟨rfl, hh⟩; subst w9)
        | (go_at_call 38; refine (memRuns_any _).mono ?_; rintro e w14 ⟨rfl, hb14⟩)
        | fail)
      go_ret
      exact ⟨rfl, HSTf.out.bel.trans (hb14.mono HSTf.out.M0)⟩
  · obtain ⟨w5, hw5⟩ : ∃ w5 : World, w5 = w4 := ⟨_, rfl⟩
    rw [← hw5] at HST HA4 HR4 ⊢
    rw [← hw5] at a5 f5
    have HST5 := HST
    have HA5 := HA4
    have HR5 := HR4
    clear hw5 HST HA4 HR4
    have HSA5 : Hid (SA r pa (g 5) kd rf ac n was A m c w5) := Lib.hid ⟨(cell_of HA5.out 0).trans rfl, (cell_of HA5.out 1).trans rfl, (cell_of HA5.out 2).trans rfl, (cell_of HA5.out 3).trans rfl, (cell_of HA5.out 4).trans rfl, (cell_of HA5.out 5).trans rfl, (cell_of HR5.out 5).trans rfl⟩
    go_upto_region 7 with (fail)
    try simp only [List.append_eq, List.cons_append, List.nil_append]
    refine regs7 (k := g 5) HSA5.out HWN.out hj10 hk5.2 (fun W hb => do_out (HST5.out.on hb).mm (-1 - (j : Nat)) (.inl (by omega)) kd rf ac n was A m c) (by intro _ _ _ _ _ h; exact h) ?_
    intro v34 v35 v36 v37 v38 v39 tb w6 hb6 htb hge
    have HST6 := Lib.hid (HST5.out.on hb6)
    have HSA6 := Lib.hid (HSA5.out.on hb6)
    have HA6 := Lib.hid ((hb6.block pa (lt_of_heap HA5.out)).trans HA5.out)
    have HTB := Lib.hid htb
    clear hb6 htb hge HST5 HSA5 HA5 HR5
    go_upto_region 8 with (fail)
    try simp only [List.append_eq, List.cons_append, List.nil_append]
    refine regs8 (k := g 5) HSA6.out HWN.out hj10 hk5.2 (fun W hb => do_out (HST6.out.on hb).mm ((g 5 : Nat) + (j : Nat)) (.inr (by omega)) kd rf ac n was A m c) (by intro _ _ _ _ _ h; exact h) ?_
    intro v40 v41 v42 v43 v44 v45 v46 v47 ub w7 hb7 hub hge
    have HST7 := Lib.hid (HST6.out.on hb7)
    have hA7 := (hb7.block pa (lt_of_heap HA6.out)).trans HA6.out
    have HT7 := Lib.hid ((hb7.block tb (lt_of_heap HTB.out)).trans HTB.out)
    have HU7 := Lib.hid hub
    have a0 : w7.cell? ⟨pa, 0, none⟩ = some (.int .i64 kd) := (cell_of hA7 0).trans rfl
    have f0 := frozen_of hA7 0
    have HA7 := Lib.hid hA7
    obtain ⟨nk, hnk⟩ : ∃ nk, nk = IntKind.i64.wrap (-kd) := ⟨_, rfl⟩
    have hnk2 := hnk.symm
    have HPT : Hid (pa ≠ tb ∧ pa ≠ ub) := Lib.hid ⟨fun e => (by have h1 := HT7.out; rw [← e, hA7] at h1; injection h1 with h1; injection h1 with h2 h3; cases h3), fun e => (by have h1 := hub; rw [← e, hA7] at h1; injection h1 with h1; injection h1 with h2 h3; cases h3)⟩
    clear hb7 hub hge hA7 HST6 HSA6 HA6 HTB hnk
    go_upto_region 10 with (fail)
    clear a0
    obtain ⟨w8, hw8⟩ : ∃ w8 : World, w8 = w7.setCell ⟨pa, 0, none⟩ (.int .i64 nk) := ⟨_, rfl⟩
    have hA8 : w8.heap[pa]? = some (.cells #[.int .i64 nk, .int .i64 rf, .int .i64 ac, .int .i64 n, .int .u64 was, .slice A m c] 74 (0, 0)) := by rw [hw8]; exact heap_setCell_same _ _ 0 _ _ _ HA7.out
    have hM7 := HST7.out.M0
    have hal8 : Al pa (pa + 1) w7 w8 := by rw [hw8]; exact (Al.refl _ _ _).set (a := ⟨pa, 0, none⟩) (Nat.le_refl _) (Nat.lt_succ_self _) _
    have hpl := HST7.out.mm.lts
    have hpn : b ≠ pa ∧ E ≠ pa ∧ R ≠ pa := ⟨fun e => (by have h1 := HST7.out.mm.box; rw [e, HA7.out] at h1; injection h1 with h1; injection h1 with h2 h3; cases h3), HPE.out.1, HPE.out.2⟩
    have HST8 := Lib.hid (HST7.out.alo hal8 (fun a hf => by have : a ≠ pa := fun e => HPF.out (e ▸ hf); omega) hpn.1 hpn.2.1 hpn.2.2 HPA.out)
    have HT8 := Lib.hid ((hal8.block tb (lt_of_heap HT7.out) (by have := HPT.out; omega)).trans HT7.out)
    have HU8 := Lib.hid ((hal8.block ub (lt_of_heap HU7.out) (by have := HPT.out; omega)).trans HU7.out)
    have HA8 := Lib.hid hA8
    have a0 : w8.cell? ⟨pa, 0, none⟩ = some (.int .i64 nk) := (cell_of hA8 0).trans rfl
    have f0 := frozen_of hA8 0
    rw [← hw8]
    clear hw8 hA8 hM7 hal8 hpl hpn HST7 HT7 HU7 HA7
    by_cases hng : nk > 0
    · go_upto_region 12 with (fail)
      clear a0 f0
      obtain ⟨w10, hw10⟩ : ∃ w10 : World, w10 = w8.setCell ⟨pa, 0, none⟩ (.int .i64 99) := ⟨_, rfl⟩
      have hA10 : w10.heap[pa]? = some (.cells #[.int .i64 99, .int .i64 rf, .int .i64 ac, .int .i64 n, .int .u64 was, .slice A m c] 74 (0, 0)) := by rw [hw10]; exact heap_setCell_same _ _ 0 _ _ _ HA8.out
      have hal10 : Al pa (pa + 1) w8 w10 := by rw [hw10]; exact (Al.refl _ _ _).set (a := ⟨pa, 0, none⟩) (Nat.le_refl _) (Nat.lt_succ_self _) _
      have hpn : b ≠ pa ∧ E ≠ pa ∧ R ≠ pa := ⟨fun e => (by have h1 := HST8.out.mm.box; rw [e, HA8.out] at h1; injection h1 with h1; injection h1 with h2 h3; cases h3), HPE.out.1, HPE.out.2⟩
      have HSTz := Lib.hid (HST8.out.alo hal10 (fun a hf => by have : a ≠ pa := fun e => HPF.out (e ▸ hf); omega) hpn.1 hpn.2.1 hpn.2.2 HPA.out)
      have HTZ := Lib.hid ((hal10.block tb (lt_of_heap HT8.out) (by have := HPT.out; omega)).trans HT8.out)
      have HUZ := Lib.hid ((hal10.block ub (lt_of_heap HU8.out) (by have := HPT.out; omega)).trans HU8.out)
      have a0 : w10.cell? ⟨pa, 0, none⟩ = some (.int .i64 99) := (cell_of hA10 0).trans rfl
      have a1 : w10.cell? ⟨pa, 1, none⟩ = some (.int .i64 rf) := (cell_of hA10 1).trans rfl
      have a2 : w10.cell? ⟨pa, 2, none⟩ = some (.int .i64 ac) := (cell_of hA10 2).trans rfl
      have a3 : w10.cell? ⟨pa, 3, none⟩ = some (.int .i64 n) := (cell_of hA10 3).trans rfl
      have a4 : w10.cell? ⟨pa, 4, none⟩ = some (.int .u64 was) := (cell_of hA10 4).trans rfl
      have a5 : w10.cell? ⟨pa, 5, none⟩ = some (.slice A m c) := (cell_of hA10 5).trans rfl
      rw [← hw10]
      clear hw10 hA10 hal10 hpn HST8 HT8 HU8 HA8
      go_upto_region 13 with (first
        | (go_at_call 35; refine (do_bad HSTz.out.mm 0 (by omega) 99 rf ac n was A m c (.inr (by omega))).mono ?_
           rintro e w9 ⟨rfl, hb9⟩
           have HB9 := Lib.hid hb9
           clear hb9
           unfold resV)
        | fail)
      obtain ⟨Wz, hWz⟩ : ∃ Wz : World, Wz = w9.alloc (.cells #[.int .i64 1, .int .i64 0, .bool false, .slice none 0 0] 80) := ⟨_, rfl⟩
      obtain ⟨zb, hzb⟩ : ∃ zb, zb = w9.heap.size := ⟨_, rfl⟩
      have hz : Wz.heap[zb]? = some (.cells #[.int .i64 1, .int .i64 0, .bool false, .slice none 0 0] 80 (0, 0)) := by rw [hWz, hzb]; exact heap_alloc_new w9 _
      have hlz : Below w9.heap.size w9 Wz := by rw [hWz]; exact below_alloc w9 _
      rw [← hWz, ← hzb]
      clear hWz hzb
      have hb8z := HB9.out.trans (hlz.mono HB9.out.size)
      have HSTf := Lib.hid (HSTz.out.on hb8z)
      have htf := (hb8z.block tb (lt_of_heap HTZ.out)).trans HTZ.out
      have huf := (hb8z.block ub (lt_of_heap HUZ.out)).trans HUZ.out
      have t0 := (cell_of htf 0).trans (show _ = some (Value.int .i64 1) from rfl)
      have t1 := (cell_of htf 1).trans (show _ = some (Value.int .i64 0) from rfl)
      have t2 := (cell_of htf 2).trans (show _ = some (Value.bool false) from rfl)
      have t3 := (cell_of htf 3).trans (show _ = some (Value.slice none 0 0) from rfl)
      have u0 := (cell_of huf 0).trans (show _ = some (Value.int .i64 1) from rfl)
      have z0 := (cell_of hz 0).trans (show _ = some (Value.int .i64 1) from rfl)
      have z1 := (cell_of hz 1).trans (show _ = some (Value.int .i64 0) from rfl)
      have z2 := (cell_of hz 2).trans (show _ = some (Value.bool false) from rfl)
      have hone : ((sl.length : Nat) : Int) - (freeN xs 5 : Nat) = 1 := by have := HFR.out; omega
      have HLV : Hid (Calls Try.prog 36 #[.pointer (some ⟨b, 0, none⟩)] Wz fun e w' => e = .returned (.int .i64 1) ∧ w' = Wz) := Lib.hid (by
        have h1 := mlive_any HSTf.out.mm (by have := HFR.out; have := HSTf.out.mm.len; omega)
        rw [hone] at h1; exact h1)
      have HNO := Lib.hid (mnow_any HSTf.out.mm)
      clear hone htf huf hz hlz hb8z HB9 HSTz HTZ HUZ
      go_wp2_with (first
        | (go_at_call 36; refine HLV.out.mono ?_; rintro e w9 ⟨rfl, hh⟩; subst w9)
        | (go_at_call 37; refine HNO.out.mono ?_; rintro e w9 ⟨rfl, hh⟩; subst w9)
        | (go_at_call 38; refine (memRuns_any _).mono ?_; rintro e w14 ⟨rfl, hb14⟩)
        | fail)
      go_ret
      exact ⟨rfl, HSTf.out.bel.trans (hb14.mono HSTf.out.M0)⟩
    · have HSTz := HST8
      have HTZ := HT8
      have HUZ := HU8
      have a1 : w8.cell? ⟨pa, 1, none⟩ = some (.int .i64 rf) := (cell_of HA8.out 1).trans rfl
      have a2 : w8.cell? ⟨pa, 2, none⟩ = some (.int .i64 ac) := (cell_of HA8.out 2).trans rfl
      have a3 : w8.cell? ⟨pa, 3, none⟩ = some (.int .i64 n) := (cell_of HA8.out 3).trans rfl
      have a4 : w8.cell? ⟨pa, 4, none⟩ = some (.int .u64 was) := (cell_of HA8.out 4).trans rfl
      have a5 : w8.cell? ⟨pa, 5, none⟩ = some (.slice A m c) := (cell_of HA8.out 5).trans rfl
      clear HST8 HT8 HU8 HA8
      go_upto_region 13 with (first
        | (go_at_call 35; refine (do_bad HSTz.out.mm 0 (by omega) nk rf ac n was A m c (.inl (by omega))).mono ?_
           rintro e w9 ⟨rfl, hb9⟩
           have HB9 := Lib.hid hb9
           clear hb9
           unfold resV)
        | fail)
      obtain ⟨Wz, hWz⟩ : ∃ Wz : World, Wz = w9.alloc (.cells #[.int .i64 1, .int .i64 0, .bool false, .slice none 0 0] 80) := ⟨_, rfl⟩
      obtain ⟨zb, hzb⟩ : ∃ zb, zb = w9.heap.size := ⟨_, rfl⟩
      have hz : Wz.heap[zb]? = some (.cells #[.int .i64 1, .int .i64 0, .bool false, .slice none 0 0] 80 (0, 0)) := by rw [hWz, hzb]; exact heap_alloc_new w9 _
      have hlz : Below w9.heap.size w9 Wz := by rw [hWz]; exact below_alloc w9 _
      rw [← hWz, ← hzb]
      clear hWz hzb
      have hb8z := HB9.out.trans (hlz.mono HB9.out.size)
      have HSTf := Lib.hid (HSTz.out.on hb8z)
      have htf := (hb8z.block tb (lt_of_heap HTZ.out)).trans HTZ.out
      have huf := (hb8z.block ub (lt_of_heap HUZ.out)).trans HUZ.out
      have t0 := (cell_of htf 0).trans (show _ = some (Value.int .i64 1) from rfl)
      have t1 := (cell_of htf 1).trans (show _ = some (Value.int .i64 0) from rfl)
      have t2 := (cell_of htf 2).trans (show _ = some (Value.bool false) from rfl)
      have t3 := (cell_of htf 3).trans (show _ = some (Value.slice none 0 0) from rfl)
      have u0 := (cell_of huf 0).trans (show _ = some (Value.int .i64 1) from rfl)
      have z0 := (cell_of hz 0).trans (show _ = some (Value.int .i64 1) from rfl)
      have z1 := (cell_of hz 1).trans (show _ = some (Value.int .i64 0) from rfl)
      have z2 := (cell_of hz 2).trans (show _ = some (Value.bool false) from rfl)
      have hone : ((sl.length : Nat) : Int) - (freeN xs 5 : Nat) = 1 := by have := HFR.out; omega
      have HLV : Hid (Calls Try.prog 36 #[.pointer (some ⟨b, 0, none⟩)] Wz fun e w' => e = .returned (.int .i64 1) ∧ w' = Wz) := Lib.hid (by
        have h1 := mlive_any HSTf.out.mm (by have := HFR.out; have := HSTf.out.mm.len; omega)
        rw [hone] at h1; exact h1)
      have HNO := Lib.hid (mnow_any HSTf.out.mm)
      clear hone htf huf hz hlz hb8z HB9 HSTz HTZ HUZ
      go_wp2_with (first
        | (go_at_call 36; refine HLV.out.mono ?_; rintro e w9 ⟨rfl, hh⟩; subst w9)
        | (go_at_call 37; refine HNO.out.mono ?_; rintro e w9 ⟨rfl, hh⟩; subst w9)
        | (go_at_call 38; refine (memRuns_any _).mono ?_; rintro e w14 ⟨rfl, hb14⟩)
        | fail)
      go_ret
      exact ⟨rfl, HSTf.out.bel.trans (hb14.mono HSTf.out.M0)⟩
end Go.Proofs.Ytndmpdpmfieacaa
