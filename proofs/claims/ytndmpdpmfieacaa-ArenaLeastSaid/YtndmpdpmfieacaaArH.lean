/-
  ArenaLeast at any order; conditions: lengths.
-/
import Derived.Test.YtndmpdpmfieacaaArG
namespace Go.Proofs.Ytndmpdpmfieacaa
open Go.RowKit Go.WideShapes Go.ChangeShapes
set_option linter.all false
section
variable {w W W' : World} {N B S k n c G d m : Nat} {lv : Nat → Bool} {gs gt : Nat → Nat} {VR VG : Value} {sl : List Sl} {P I : Nat → Nat} {V : Nat → Value} {xs : Nat → List Int} {F F' : Nat → Prop}
theorem LA.lv' {lw : Nat → Bool} (h : LA N B S k n c G d lv gs sl P I V xs W) (he : ∀ i, i < n → lv i = lw i) : LA N B S k n c G d lw gs sl P I V xs W :=
  ⟨h.ar, h.ok, h.len, fun i hi => by rw [← he i hi]; exact h.all i hi, h.cnt⟩
theorem LA.footN (h : LA N B S k n c G d lv gs sl P I V xs W) : (∀ b, Foot B S 5 sl P I V b → N ≤ b) ∧ ∀ b, Foot B S 5 sl P I V b → b < W.heap.size :=
  ⟨fun b hb => Nat.le_trans h.ar.NS (h.ar.foot hb).1, fun b hb => (h.ar.foot hb).2⟩
theorem LA.nils (h : LA N B S k n c G d lv gs sl P I V xs W) (e : Nat) (he : e ≠ c) : xs e = [] := by
  apply List.eq_nil_iff_forall_not_mem.2
  intro x hx
  obtain ⟨i, hi, _, hc⟩ := h.ok.only e x hx
  have := (h.all i (by rw [← h.len]; exact hi)).1
  omega
theorem LA.freeN (h : LA N B S k n c G d lv gs sl P I V xs W) (hc : c < 5) : Go.Proofs.Ytndmpdpmfieacaa.freeN xs 5 = d := by
  have h0 : ∀ e, e ≠ c → (xs e).length = 0 := fun e he => by rw [h.nils e he]; rfl
  have hcn := h.cnt
  have : c = 0 ∨ c = 1 ∨ c = 2 ∨ c = 3 ∨ c = 4 := by omega
  simp only [Go.Proofs.Ytndmpdpmfieacaa.freeN]
  rcases this with rfl | rfl | rfl | rfl | rfl
  · rw [h0 1 (by omega), h0 2 (by omega), h0 3 (by omega), h0 4 (by omega)]; omega
  · rw [h0 0 (by omega), h0 2 (by omega), h0 3 (by omega), h0 4 (by omega)]; omega
  · rw [h0 0 (by omega), h0 1 (by omega), h0 3 (by omega), h0 4 (by omega)]; omega
  · rw [h0 0 (by omega), h0 1 (by omega), h0 2 (by omega), h0 4 (by omega)]; omega
  · rw [h0 0 (by omega), h0 1 (by omega), h0 2 (by omega), h0 3 (by omega)]; omega
theorem LA.live (h : LA N B S k n c G d lv gs sl P I V xs W) (hc : c < 5) (hn : n ≤ 1024) (hd : d ≤ 1024) : Calls Try.prog 14 #[.pointer (some ⟨B, 0, none⟩)] W fun e w' => e = .returned (.int .i64 ((n : Int) - (d : Nat))) ∧ w' = W := by
  have := live_any h.ar (by have := h.len; omega) (by rw [h.freeN hc]; omega)
  rw [h.len, h.freeN hc] at this
  exact this
/-- One class alone. -/
theorem Fr.la {n c : Nat} (hc : c < 5) (hn : n ≤ 1024) (h : Fr (fun i => if i = c then n else 0) 5 0 sl xs) (ha : Ar N B S k 5 sl P I V xs W) : LA N B S k n c 1 n (fun _ => false) (fun _ => 1) sl P I V xs W := by
  have hs : ∀ q, q ≤ c → sumN (fun i => if i = c then n else 0) q = 0 := by
    intro q
    induction q with
    | zero => intro _; rfl
    | succ q ih => intro hq; show sumN _ q + _ = 0; rw [ih (by omega)]; simp; intro e; omega
  have hs2 : ∀ q, c < q → sumN (fun i => if i = c then n else 0) q = n := by
    intro q
    induction q with
    | zero => intro h; omega
    | succ q ih =>
      intro hq
      show sumN _ q + _ = n
      by_cases e : q = c
      · subst e; rw [hs q (Nat.le_refl _)]; simp
      · rw [ih (by omega)]; simp [e]
  have hl : sl.length = n := by rw [h.len, hs2 5 hc]; rfl
  refine ⟨ha, h.ok, hl, fun i hi => ?_, by rw [h.cnt c, if_pos hc, if_pos rfl]⟩
  have h1 := h.all i (by omega)
  have h2 := h.place i (by omega)
  refine ⟨?_, h1.1, h1.2⟩
  by_cases e : (sl.getD i dS).cls < c
  · rw [hs _ (by omega : (sl.getD i dS).cls + 1 ≤ c)] at h2; omega
  · by_cases e2 : c < (sl.getD i dS).cls
    · rw [hs2 _ e2] at h2; omega
    · omega
end
set_option maxRecDepth 100000 in
set_option maxHeartbeats 6400000 in
theorem least_any (many : Int) (A : Option Addr) (n' c' : Nat) (x : List Int) (w : World) (r : Reads w w.heap.size 1 A n' (x.map (Value.int .i64))) :
    Calls Try.prog 5 #[.int .i64 many, .slice A n' c'] w fun e w' => e = .returned (.bool true) ∧ Below w.heap.size w w' := by
  obtain ⟨q, hq, hq9⟩ := withinV_nat many 10 (by omega)
  obtain ⟨n, hn⟩ : ∃ n, n = q + 1 := ⟨_, rfl⟩
  have HX := Lib.hid (show Reads w w.heap.size 1 A n' (ks .i64 x) from r)
  have HW : Hid (∀ W, Calls Try.prog 21 #[.int .i64 many, .int .i64 0, .int .i64 9] W fun e w' => e = .returned (.int .i64 (q : Nat)) ∧ W = w') := Lib.hid (fun W => by
    have := within_any many 9 (by omega) (by omega) W
    rw [show ((9 : Int) + 1) = ((10 : Nat) : Int) from rfl, hq] at this
    exact this)
  have hsum : sumN (fun i => if i = 0 then n else 0) 5 = n := by simp [sumN]
  have HNEW : Hid (∀ W, Calls Try.prog 13 #[.agg #[.int .i64 (n : Nat), .int .i64 0, .int .i64 0, .int .i64 0, .int .i64 0]] W fun e w' => ∃ B S sl P I V xs, e = .returned (.tuple #[.pointer (some ⟨B, 0, none⟩), .int .i64 0]) ∧ LA W.heap.size B S n n 0 1 n (fun _ => false) (fun _ => 1) sl P I V xs w' ∧ Below W.heap.size W w') := Lib.hid (fun W => by
    have := arena_new (fun i => if i = 0 then n else 0) (by omega) W
    rw [hsum] at this
    refine Calls.mono (show Calls Try.prog 13 #[.agg #[.int .i64 (n : Nat), .int .i64 0, .int .i64 0, .int .i64 0, .int .i64 0]] W _ from this) ?_
    rintro e w' ⟨B, S, sl, P, I, V, xs, rfl, ha, hb, hf⟩
    exact ⟨B, S, sl, P, I, V, xs, rfl, hf.la (by omega) (by omega) ha, hb⟩)
  have hnw : (1 : Int) + (q : Nat) = (n : Nat) := by omega
  have hn1 : 1 ≤ n := by omega
  have hn9 : n ≤ 10 := by omega
  have n0 : (0 : Int) ≤ n := by omega
  have HRF : Hid (∀ (i g : Nat) W, Calls Try.prog 25 #[.int .i64 (i : Nat), .int .i64 (g : Nat), .bool true] W fun e w' => e = .returned (.int .i64 (refV (i : Nat) (g : Nat) true)) ∧ W = w') := Lib.hid (fun i g W => ref_c _ _ _ W)
  obtain ⟨i3, hi3, z3a, z3b, z3c⟩ := info_parts info3
  clear hq r hsum hn
  go_enter Try.func5, Try.ntmps5
  go_upto_region 3 with (first
    | (go_at_call 21; refine (HW.out _).mono ?_; rintro e w9 ⟨rfl, hh⟩; subst w9)
    | (go_at_call 13; refine (HNEW.out _).mono ?_; rintro e w1 ⟨B, S, sl, P, I, V, xs, rfl, hla, hb1⟩
       have HLA := Lib.hid hla
       have HB1 := Lib.hid hb1
       clear hla hb1)
    | fail)
  have HSZ : Hid (w.heap.size ≤ w1.heap.size) := Lib.hid HB1.out.size
  have HL0 : Hid (∃ sl V xs, LA w.heap.size B S n n 0 1 (n - 0) (fun i => decide (i < 0)) (fun _ => 1) sl P I V xs w1 ∧ LR w (Foot B S 5 sl P I V) w.heap.size 0 (fun _ => 1) (fun _ => 1) (.slice none 0 0) (.slice none 0 0) w1) := Lib.hid ⟨sl, V, xs, HLA.out.lv' (fun i hi => by simp), ⟨Rw.nil _ _ _, Rw.nil _ _ _, (fun g hg => by cases hg), HB1.out, HLA.out.footN.2, Nat.le_refl _, HSZ.out⟩⟩
  clear HLA HNEW HW HB1
  go_wp2
  go_loopw [8, 9, 10] (fun vr vg i W => ∃ (m : Nat) (VR VG : Value), i = .int .i64 m ∧ m ≤ n ∧ VR = vr ∧ VG = vg ∧ Hid (∃ sl V xs, LA w.heap.size B S n n 0 1 (n - m) (fun i => decide (i < m)) (fun _ => 1) sl P I V xs W ∧ LR w (Foot B S 5 sl P I V) w.heap.size m (fun _ => 1) (fun _ => 1) VR VG W)) (fun _ _ i _ => n - (intOf i).toNat)
  case atStart => exact ⟨0, _, _, rfl, Nat.zero_le _, rfl, rfl, HL0⟩
  case round =>
    clear HL0 sl V xs
    obtain ⟨m, VR, VG, rfl, hm, hVR, hVG, HI⟩ := hrel
    subst hVR hVG
    obtain ⟨sl, V, xs, hla, hlr⟩ := HI.out
    have HLA := Lib.hid hla
    have HLR := Lib.hid hlr
    clear HI hla hlr
    have m0 : (0 : Int) ≤ m := by omega
    by_cases hmn : m < n
    · have m1 : (m : Int) < n := by omega
      obtain ⟨hne, i, hi, hx, hl, hmin⟩ := HLA.out.head (by omega) (by omega)
      have him : i = m := by
        have h1 := hmin m hmn (by simp)
        have h2 : ¬ i < m := by simpa using hl
        omega
      have hal := HLA.out.alloc (by omega) (by omega) (by omega) (by omega) (by omega) hi hx (A := none) (mm := 0) (cc := 0) (M := 0) (l := []) Reads.none_ (Nat.zero_le _) (fun ad e => by cases e) (Nat.zero_le _)
      rw [him] at hal
      have hup : up (fun i => decide (i < m)) m true = fun i => decide (i < m + 1) := by
        funext j
        by_cases e : j = m
        · subst e; rw [up_same]; simp
        · rw [up_other _ _ e]; exact decide_eq_decide.2 (by omega)
      rw [hup, show n - m - 1 = n - (m + 1) from by omega] at hal
      have HAL := Lib.hid hal
      obtain ⟨ref, href⟩ : ∃ ref, ref = refV (m : Nat) (1 : Nat) true := ⟨_, rfl⟩
      have HREF := Lib.hid href
      have HRC := Lib.hid (HRF.out m 1)
      replace HAL : Hid (Calls Try.prog 23 #[.pointer (some ⟨B, 0, none⟩), .int .i64 0, .slice none 0 0] wr fun e w' => e = .returned (.tuple #[.int .i64 ref, .int .i64 0]) ∧ ∃ sl' V' xs', LA w.heap.size B S n n 0 1 (n - (m + 1)) (fun i => decide (i < m + 1)) (fun _ => 1) sl' P I V' xs' w' ∧ Mv (Foot B S 5 sl P I V) (Foot B S 5 sl' P I V') wr w') := Lib.hid (by
        rw [href]
        refine Calls.mono HAL.out ?_
        rintro e w' ⟨he, sl', V', xs', h1, h2, -⟩
        exact ⟨he, sl', V', xs', h1, h2⟩)
      replace HRC : Hid (∀ W, Calls Try.prog 25 #[.int .i64 (m : Nat), .int .i64 1, .bool true] W fun e w' => e = .returned (.int .i64 ref) ∧ W = w') := by rw [href]; exact HRC
      clear hal href hne hx hl hmin him hup
      go_upto_region 12 with (first
        | (go_at_call 23; refine HAL.out.mono ?_; rintro e w3 ⟨rfl, sl', V', xs', hla', hmv⟩
           have HLR3 := Lib.hid (HLR.out.mv hmv HLA.out.footN.1 hla'.footN.2)
           have HLA3 := Lib.hid hla'
           clear hla' hmv)
        | (go_at_call 25; refine (HRC.out _).mono ?_; rintro e w9 ⟨rfl, hh⟩; subst w9)
        | fail)
      have hmm : m ≤ 10 := by omega
      go_wp2_with (first
        | (refine wpList_append_mid rfl (.tmp 50) (.tmp 52) 45 rfl w.heap.size 3 i3 _ 1 8 Try.underlying45 hi3 z3a z3b z3c rfl (by omega) VR m (ks .i64 (refL m (fun _ => 1))) rfl (HLR3.out.rr.mid.onb (below_alloc _ _)) ⟨_, 0, none⟩ 1 1 [.int .i64 ref] rfl rfl (World.news_of_block (cs := #[.int .i64 ref]) (t := 3) (fr := (0, 0)) (heap_alloc_new _ _)) (by simp [Value.oneCell']) (by unfold maxLen; omega) (by omega) (by have := HLR3.out.NW; simp; omega) ?_
           intro VR2 w4 hmx hrx
           have HMX := Lib.hid hmx
           have HRX := Lib.hid hrx
           clear hmx hrx)
        | (refine wpList_append_mid rfl (.tmp 54) (.tmp 55) 45 rfl w.heap.size 3 i3 _ 1 8 Try.underlying45 hi3 z3a z3b z3c rfl (by omega) VG m (ks .i64 (genL m (fun _ => 1))) rfl (HLR3.out.mid2 _ _ HRX.out).1 ⟨_, 0, none⟩ 1 1 [.int .i64 1] rfl rfl (World.news_of_block (cs := #[.int .i64 1]) (t := 3) (fr := (0, 0)) (heap_alloc_new _ _)) (by simp [Value.oneCell']) (by unfold maxLen; omega) (by omega) (HLR3.out.mid2 _ _ HRX.out).2 ?_
           intro VG2 w5 hmy hry
           have HPU := Lib.hid (HLR3.out.push (by rw [← HREF.out]; exact HMX.out) HRX.out hmy hry)
           clear hmy hry HMX HRX)
        | fail)
      go_roundw
      case rel => exact ⟨m + 1, VR2, VG2, by go_num, by omega, rfl, rfl, Lib.hid ⟨_, _, _, HLA3.out.same HPU.out.2, HPU.out.1⟩⟩
      case measure => simp only [intOf]; omega
    · obtain rfl : n = m := by omega
      obtain ⟨AR, cr, er⟩ := HLR.out.rr.mid.form
      obtain ⟨AG, cg, eg⟩ := HLR.out.rg.mid.form
      subst er eg
      have HI : Hid (∃ sl V xs gs, LA w.heap.size B S n n 0 (1 + 0) 0 (fun _ => true) gs sl P I V xs wr ∧ LR w (Foot B S 5 sl P I V) w.heap.size n gs gs (.slice AR n cr) (.slice AG n cg) wr) := Lib.hid ⟨sl, V, xs, fun _ => 1, by
        have := HLA.out
        rw [Nat.sub_self] at this
        exact this.lv' (fun i hi => decide_eq_true hi), HLR.out⟩
      clear HLA HLR sl V xs m0 hm
      obtain ⟨p, hp⟩ : ∃ p, p = n - 1 := ⟨_, rfl⟩
      have hpn : (n : Int) - 1 = (p : Nat) := by omega
      have hpp : n = p + 1 := by omega
      have HPN := Lib.hid hpn
      have HPP := Lib.hid hpp
      clear hp hpp hpn
      go_wp2
      go_loopw [13] (fun i W => ∃ j : Nat, i = .int .i64 j ∧ j ≤ 40 ∧ j ≤ n' ∧ Hid (∃ sl V xs gs, LA w.heap.size B S n n 0 (1 + j) 0 (fun _ => true) gs sl P I V xs W ∧ LR w (Foot B S 5 sl P I V) w.heap.size n gs gs (.slice AR n cr) (.slice AG n cg) W)) (fun i _ => 40 - (intOf i).toNat)
      case atStart => exact ⟨0, rfl, Nat.zero_le _, Nat.zero_le _, HI⟩
      case round =>
        clear HI
        obtain ⟨j, rfl, hj, hjn, HI⟩ := hrel
        obtain ⟨sl, V, xs, gs, hla, hlr⟩ := HI.out
        have HLA := Lib.hid hla
        have HLR := Lib.hid hlr
        clear HI hla hlr
        have j0 : (0 : Int) ≤ j := by omega
        by_cases hlt : j < n' ∧ j < 40
        · obtain ⟨hl1, hl2⟩ := hlt
          obtain ⟨ad, rfl, hxc⟩ := (HX.out.below HLR.out.bel).kat hl1
          obtain ⟨xv, hxv⟩ : ∃ xv, xv = x.getD j 0 := ⟨_, rfl⟩
          rw [← hxv] at hxc
          clear hxv
          have j1 : (j : Int) < n' := by omega
          obtain ⟨kk, hkk, hkn⟩ := withinV_nat xv n (by omega)
          have hpn := HPN.out
          have HW2 : Hid (∀ W, Calls Try.prog 21 #[.int .i64 xv, .int .i64 0, .int .i64 (p : Nat)] W fun e w' => e = .returned (.int .i64 (kk : Nat)) ∧ W = w') := Lib.hid (fun W => by
            have hp1 := HPP.out
            have := within_any xv (p : Nat) (by omega) (by omega) W
            rw [show (((p : Nat) : Int) + 1) = ((n : Nat) : Int) from by omega, hkk] at this
            exact this)
          clear hkk
          have k0 : (0 : Int) ≤ kk := by omega
          have k1 : (kk : Int) < n := by omega
          go_upto_region 17 with (first
            | (go_at_call 21; refine (HW2.out _).mono ?_; rintro e w9 ⟨rfl, hh⟩; subst w9)
            | fail)
          clear hxc HW2 hpn
          obtain ⟨gk, hgk⟩ : ∃ gk, gk = gs kk := ⟨_, rfl⟩
          have hgk9 : gk ≤ 100 := by
            have h1 := HLA.out.ok.gen kk (by rw [HLA.out.len]; exact hkn)
            rw [(HLA.out.all kk hkn).2.1] at h1
            omega
          obtain ⟨adr, rfl, d1⟩ := Rw.get HLR.out.rr hkn
          have hfr := HLA.out.freed (by omega) (by omega) (Nat.le_refl _) (by omega) (by omega) hkn rfl
          rw [← hgk] at hfr d1
          obtain ⟨ref, href⟩ : ∃ ref, ref = refV (kk : Nat) (gk : Nat) true := ⟨_, rfl⟩
          rw [← href] at d1
          obtain ⟨gk1, hgk1⟩ : ∃ gk1, gk1 = gk + 1 := ⟨_, rfl⟩
          rw [← hgk1] at hfr
          have HFR : Hid (Calls Try.prog 18 #[.pointer (some ⟨B, 0, none⟩), .int .i64 ref] wr fun e w' => e = .returned (.int .i64 0) ∧ ∃ sl' V' xs', LA w.heap.size B S n n 0 (1 + j + 1) (0 + 1) (up (fun _ => true) kk false) (up gs kk gk1) sl' P I V' xs' w' ∧ Mv (Foot B S 5 sl P I V) (Foot B S 5 sl' P I V') wr w') := Lib.hid (by
            rw [href]
            refine Calls.mono hfr ?_
            rintro e w' ⟨he, sl', V', xs', h1, h2, -⟩
            exact ⟨he, sl', V', xs', h1, h2⟩)
          have HGK := Lib.hid hgk
          have HGK1 := Lib.hid hgk1
          clear hfr href hgk hgk1
          go_upto_region 19 with (first
            | (go_at_call 18; refine HFR.out.mono ?_; rintro e w3 ⟨rfl, sl3, V3, xs3, hla3, hmv3⟩
               have HLR3 := Lib.hid (HLR.out.mv hmv3 HLA.out.footN.1 hla3.footN.2)
               have HLA3 := Lib.hid hla3
               clear hla3 hmv3)
            | fail)
          clear d1 HFR
          obtain ⟨adg, rfl, d2⟩ := Rw.get HLR3.out.rg hkn
          obtain ⟨adg', vg, e1, e2, e3, hlr4, hsm4⟩ := HLR3.out.setG hkn gk1
          cases e1
          rw [← HGK.out] at d2
          have hgg : ((gk : Nat) : Int) + 1 = (gk1 : Nat) := by have := HGK1.out; omega
          obtain ⟨w4, hw4⟩ : ∃ w4 : World, w4 = w3.setCell (adg.add kk) (.int .i64 (gk1 : Nat)) := ⟨_, rfl⟩
          rw [← hw4] at hlr4 hsm4
          have HLR4 := Lib.hid hlr4
          have HLA4 := Lib.hid (HLA3.out.same hsm4)
          have HW4 := Lib.hid hw4
          clear hlr4 hsm4 hw4 e2
          go_upto_region 20 with (fail)
          rw [← HW4.out]
          clear d2 e3 HW4
          obtain ⟨hne, i, hi, hx, hl, hmin⟩ := HLA4.out.head (by omega) (by omega)
          have him : i = kk := by
            by_cases e : i = kk
            · exact e
            · rw [up_other _ _ e] at hl; cases hl
          rw [him] at hx
          have hal := HLA4.out.alloc (by omega) (by omega) (by omega) (by omega) (by omega) hkn hx (A := none) (mm := 0) (cc := 0) (M := 0) (l := []) Reads.none_ (Nat.zero_le _) (fun ad e => by cases e) (Nat.zero_le _)
          have hup : up (up (fun _ => true) kk false) kk true = fun _ => true := by
            funext q
            by_cases e : q = kk
            · subst e; rw [up_same]
            · rw [up_other _ _ e, up_other _ _ e]
          rw [hup, up_same] at hal
          obtain ⟨ref2, href2⟩ : ∃ ref2, ref2 = refV (kk : Nat) (gk1 : Nat) true := ⟨_, rfl⟩
          have HAL : Hid (Calls Try.prog 23 #[.pointer (some ⟨B, 0, none⟩), .int .i64 0, .slice none 0 0] w4 fun e w' => e = .returned (.tuple #[.int .i64 ref2, .int .i64 0]) ∧ ∃ sl' V' xs', LA w.heap.size B S n n 0 (1 + j + 1) 0 (fun _ => true) (up gs kk gk1) sl' P I V' xs' w' ∧ Mv (Foot B S 5 sl3 P I V3) (Foot B S 5 sl' P I V') w4 w') := Lib.hid (by
            rw [href2]
            refine Calls.mono hal ?_
            rintro e w' ⟨he, sl', V', xs', h1, h2, -⟩
            exact ⟨he, sl', V', xs', h1, h2⟩)
          have HRC : Hid (∀ W, Calls Try.prog 25 #[.int .i64 (kk : Nat), .int .i64 (gk1 : Nat), .bool true] W fun e w' => e = .returned (.int .i64 ref2) ∧ W = w') := Lib.hid (by rw [href2]; exact HRF.out kk gk1)
          have HREF2 := Lib.hid href2
          clear hne hi hx hl hmin him hal hup href2
          go_upto_region 21 with (first
            | (go_at_call 23; refine HAL.out.mono ?_; rintro e w5 ⟨rfl, sl5, V5, xs5, hla5, hmv5⟩
               have HLR5 := Lib.hid (HLR4.out.mv hmv5 HLA4.out.footN.1 hla5.footN.2)
               have HLA5 := Lib.hid hla5
               clear hla5 hmv5)
            | fail)
          obtain ⟨adg2, e1, d3⟩ := Rw.get HLR5.out.rg hkn
          cases e1
          rw [up_same] at d3
          obtain ⟨adr2, vr, e1, e2, e3, hlr6, hsm6⟩ := HLR5.out.setR hkn gk1
          cases e1
          rw [← HREF2.out] at hlr6 hsm6
          have HLR6 := Lib.hid hlr6
          have HLA6 := Lib.hid (HLA5.out.same hsm6)
          clear hlr6 hsm6
          go_wp2_with (first
            | (go_at_call 25; refine (HRC.out _).mono ?_; rintro e w9 ⟨rfl, hh⟩; subst w9)
            | fail)
          go_roundw
          case rel => exact ⟨j + 1, by go_num, by omega, by omega, Lib.hid ⟨_, _, _, _, HLA6.out, HLR6.out⟩⟩
          case measure => simp only [intOf]; omega
        · have hlt2 : j < n' ∧ ¬ j < 40 ∨ ¬ j < n' := by omega
          have HLV := Lib.hid (HLA.out.live (by omega) (by omega) (by omega))
          rcases hlt2 with ⟨g1, g2⟩ | g1
          all_goals
            go_wp2_with (first
              | (go_at_call 14; refine HLV.out.mono ?_; rintro e w9 ⟨rfl, hh⟩; subst w9)
              | (go_at_call 20; refine (arenaRuns_any _).mono ?_; rintro e w9 ⟨rfl, hb9⟩)
              | fail)
            go_ret
            exact ⟨rfl, HLR.out.bel.trans (hb9.mono HLR.out.bel.size)⟩
end Go.Proofs.Ytndmpdpmfieacaa
