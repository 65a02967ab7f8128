/-
  ArenaFills at any class, length and word; no condition.
-/
import Derived.Test.YtndmpdpmfieacaaArG
import Derived.Laws.Bits64
namespace Go.Proofs.Ytndmpdpmfieacaa
open Go.RowKit Go.WideShapes Go.ChangeShapes
set_option linter.all false
section
variable {w W W' : World} {N B S k n c G d m : Nat} {lv : Nat → Bool} {gs gt : Nat → Nat} {VR VG : Value} {sl : List Sl} {P I : Nat → Nat} {V : Nat → Value} {xs : Nat → List Int} {F F' : Nat → Prop}
theorem LA.lv' {lw : Nat → Bool} (h : LA N B S k n c G d lv gs sl P I V xs W) (he : ∀ i, i < n → lv i = lw i) : LA N B S k n c G d lw gs sl P I V xs W :=
  ⟨h.ar, h.ok, h.len, fun i hi => by rw [← he i hi]; exact h.all i hi, h.cnt⟩
theorem LA.footN (h : LA N B S k n c G d lv gs sl P I V xs W) : (∀ b, Foot B S 5 sl P I V b → N ≤ b) ∧ ∀ b, Foot B S 5 sl P I V b → b < W.heap.size :=
  ⟨fun b hb => Nat.le_trans h.ar.NS (h.ar.foot hb).1, fun b hb => (h.ar.foot hb).2⟩
theorem LA.nils (h : LA N B S k n c G d lv gs sl P I V xs W) (e : Nat) (he : e ≠ c) : xs e = [] := by
  apply List.eq_nil_iff_forall_not_mem.2
  intro x hx
  obtain ⟨i, hi, _, hc⟩ := h.ok.only e x hx
  have := (h.all i (by rw [← h.len]; exact hi)).1
  omega
theorem LA.freeN (h : LA N B S k n c G d lv gs sl P I V xs W) (hc : c < 5) : Go.Proofs.Ytndmpdpmfieacaa.freeN xs 5 = d := by
  have h0 : ∀ e, e ≠ c → (xs e).length = 0 := fun e he => by rw [h.nils e he]; rfl
  have hcn := h.cnt
  have : c = 0 ∨ c = 1 ∨ c = 2 ∨ c = 3 ∨ c = 4 := by omega
  simp only [Go.Proofs.Ytndmpdpmfieacaa.freeN]
  rcases this with rfl | rfl | rfl | rfl | rfl
  · rw [h0 1 (by omega), h0 2 (by omega), h0 3 (by omega), h0 4 (by omega)]; omega
  · rw [h0 0 (by omega), h0 2 (by omega), h0 3 (by omega), h0 4 (by omega)]; omega
  · rw [h0 0 (by omega), h0 1 (by omega), h0 3 (by omega), h0 4 (by omega)]; omega
  · rw [h0 0 (by omega), h0 1 (by omega), h0 2 (by omega), h0 4 (by omega)]; omega
  · rw [h0 0 (by omega), h0 1 (by omega), h0 2 (by omega), h0 3 (by omega)]; omega
theorem LA.live (h : LA N B S k n c G d lv gs sl P I V xs W) (hc : c < 5) (hn : n ≤ 1024) (hd : d ≤ 1024) : Calls Try.prog 14 #[.pointer (some ⟨B, 0, none⟩)] W fun e w' => e = .returned (.int .i64 ((n : Int) - (d : Nat))) ∧ w' = W := by
  have := live_any h.ar (by have := h.len; omega) (by rw [h.freeN hc]; omega)
  rw [h.len, h.freeN hc] at this
  exact this
/-- One class alone. -/
theorem Fr.la {n c : Nat} (hc : c < 5) (hn : n ≤ 1024) (h : Fr (fun i => if i = c then n else 0) 5 0 sl xs) (ha : Ar N B S k 5 sl P I V xs W) : LA N B S k n c 1 n (fun _ => false) (fun _ => 1) sl P I V xs W := by
  have hs : ∀ q, q ≤ c → sumN (fun i => if i = c then n else 0) q = 0 := by
    intro q
    induction q with
    | zero => intro _; rfl
    | succ q ih => intro hq; show sumN _ q + _ = 0; rw [ih (by omega)]; simp; intro e; omega
  have hs2 : ∀ q, c < q → sumN (fun i => if i = c then n else 0) q = n := by
    intro q
    induction q with
    | zero => intro h; omega
    | succ q ih =>
      intro hq
      show sumN _ q + _ = n
      by_cases e : q = c
      · subst e; rw [hs q (Nat.le_refl _)]; simp
      · rw [ih (by omega)]; simp [e]
  have hl : sl.length = n := by rw [h.len, hs2 5 hc]; rfl
  refine ⟨ha, h.ok, hl, fun i hi => ?_, by rw [h.cnt c, if_pos hc, if_pos rfl]⟩
  have h1 := h.all i (by omega)
  have h2 := h.place i (by omega)
  refine ⟨?_, h1.1, h1.2⟩
  by_cases e : (sl.getD i dS).cls < c
  · rw [hs _ (by omega : (sl.getD i dS).cls + 1 ≤ c)] at h2; omega
  · by_cases e2 : c < (sl.getD i dS).cls
    · rw [hs2 _ e2] at h2; omega
    · omega
end
theorem made_zero (k : Nat) : madeCells #[Value.int .u64 0] k = (wv (List.replicate k 0)).toArray := by
  apply Array.ext'
  have := zeros_k .u64 k
  rw [Nat.mul_one] at this
  exact this
theorem row_reads {w : World} {b n : Nat} {l : List Int} (h : w.heap[b]? = some (.cells (wv l).toArray 35 (0, 0))) (hl : l.length = n) : Reads w w.heap.size 1 (some ⟨b, 0, none⟩) n (ks .u64 l) :=
  ⟨by rw [ks_len, hl]; omega, fun _ => ⟨_, rfl, lt_of_heap h, fun j u hu => by
    have : (⟨b, 0, none⟩ : Addr).add j = ⟨b, j, none⟩ := by simp [Addr.add]; intro e; exact e.symm
    rw [this, cell_of h]; simpa [wv, ks] using hu⟩⟩
/-- A row of k words, the first j of them written. -/
structure Wl (w W : World) (g k j : Nat) (f : Nat → Int) : Prop where
  row : ∃ l : List Int, W.heap[g]? = some (.cells (wv l).toArray 35 (0, 0)) ∧ l.length = k ∧ ∀ i, i < j → l.getD i 0 = f i
  bel : Below w.heap.size w W
  ge : w.heap.size ≤ g
theorem Wl.cell {w W : World} {g k j : Nat} {f : Nat → Int} (h : Wl w W g k j f) (hj : j < k) : ∃ v, W.cell? ⟨g, j, none⟩ = some v ∧ W.frozen? ⟨g, j, none⟩ = false := by
  obtain ⟨l, h1, h2, h3⟩ := h.row
  refine ⟨.int .u64 (l.getD j 0), ?_, frozen_of h1 j⟩
  rw [cell_of h1]
  simp [wv, List.getElem?_eq_getElem (show j < l.length by omega), List.getD_eq_getElem?_getD]
theorem Wl.step {w W : World} {g k j : Nat} {f : Nat → Int} (h : Wl w W g k j f) (hj : j < k) : Wl w (W.setCell ⟨g, j, none⟩ (.int .u64 (f j))) g k (j + 1) f := by
  obtain ⟨l, h1, h2, h3⟩ := h.row
  refine ⟨⟨l.set j (f j), ?_, by rw [List.length_set]; exact h2, fun i hi => ?_⟩, h.bel.setCell (p := ⟨g, j, none⟩) h.ge _, h.ge⟩
  · rw [heap_setCell_same W g j _ 35 _ h1]
    congr 2
    apply Array.ext'
    simp [wv, List.map_set]
  · rw [List.getD_eq_getElem?_getD, List.getElem?_set]
    by_cases e : j = i
    · subst e; rw [if_pos rfl, if_pos (by omega)]; rfl
    · rw [if_neg e, ← List.getD_eq_getElem?_getD]; exact h3 i (by omega)
set_option maxRecDepth 100000 in
set_option maxHeartbeats 6400000 in
theorem fills_any (a b vv : Int) (w : World) : Calls Try.prog 4 #[.int .i64 a, .int .i64 b, .int .u64 vv] w fun e w' => e = .returned (.bool true) ∧ Below w.heap.size w w' := by
  obtain ⟨c, hc, hc5⟩ := withinV_nat a 5 (by omega)
  have HWC : Hid (∀ W, Calls Try.prog 21 #[.int .i64 a, .int .i64 0, .int .i64 4] W fun e w' => e = .returned (.int .i64 (c : Nat)) ∧ W = w') := Lib.hid (fun W => by
    have := within_any a 4 (by omega) (by omega) W
    rw [show ((4 : Int) + 1) = ((5 : Nat) : Int) from rfl, hc] at this
    exact this)
  obtain ⟨n, hn⟩ : ∃ n, n = szN c := ⟨_, rfl⟩
  have hn8 : 8 ≤ n := by rw [hn]; exact szN_pos hc5
  have hn9 : n ≤ 264 := by rw [hn]; exact szN_le c
  obtain ⟨k, hk, hk9⟩ := withinV_nat b (n + 1) (by omega)
  have HWK : Hid (∀ W, Calls Try.prog 21 #[.int .i64 b, .int .i64 0, .int .i64 (n : Nat)] W fun e w' => e = .returned (.int .i64 (k : Nat)) ∧ W = w') := Lib.hid (fun W => by
    have := within_any b (n : Nat) (by omega) (by omega) W
    rw [show (((n : Nat) : Int) + 1) = ((n + 1 : Nat) : Int) from rfl, hk] at this
    exact this)
  have HSIZE : Hid (∀ W, Calls Try.prog 22 #[.int .i64 (c : Nat)] W fun e w' => e = .returned (.int .i64 (n : Nat)) ∧ w' = W) := Lib.hid (fun W => by rw [hn]; exact size_in c hc5 W)
  obtain ⟨f, hf⟩ : ∃ f : Nat → Int, f = up (fun _ => 0) c 1 := ⟨_, rfl⟩
  have hsum : sumN (fun i => if i = c then 1 else 0) 5 = 1 := by
    have : c = 0 ∨ c = 1 ∨ c = 2 ∨ c = 3 ∨ c = 4 := by omega
    rcases this with rfl | rfl | rfl | rfl | rfl <;> simp [sumN]
  have HNEW : Hid (∀ W, Calls Try.prog 13 #[.agg #[.int .i64 (f 0), .int .i64 (f 1), .int .i64 (f 2), .int .i64 (f 3), .int .i64 (f 4)]] W fun e w' => ∃ B S sl P I V xs, e = .returned (.tuple #[.pointer (some ⟨B, 0, none⟩), .int .i64 0]) ∧ LA W.heap.size B S 1 1 c 1 1 (fun _ => false) (fun _ => 1) sl P I V xs w' ∧ Below W.heap.size W w') := Lib.hid (fun W => by
    have := arena_new (fun i => if i = c then 1 else 0) (by omega) W
    rw [hsum] at this
    have he : (Value.agg #[.int .i64 (f 0), .int .i64 (f 1), .int .i64 (f 2), .int .i64 (f 3), .int .i64 (f 4)]) = nsV (fun i => if i = c then 1 else 0) := by
      have : f = fun i => ((if i = c then 1 else 0 : Nat) : Int) := by
        rw [hf]; funext i; unfold up; split <;> rfl
      rw [this]; rfl
    rw [he]
    refine this.mono ?_
    rintro e w' ⟨B, S, sl, P, I, V, xs, rfl, ha, hb, hf⟩
    exact ⟨B, S, sl, P, I, V, xs, rfl, hf.la hc5 (by omega) ha, hb⟩)
  have hmk := fun m (hm : m ≤ 1000) w => run_make_row' (P := Try.prog) 30 35 (.int .u64 0) 8 Try.underlying30 info35b rfl .i64 .i64 m (by omega) (by omega) w
  have HMK := Lib.hid hmk
  have HF := Lib.hid hf
  have HNC := Lib.hid hn
  have c0 : (0 : Int) ≤ c := by omega
  have c5 : (c : Int) < 5 := by omega
  have n1 : ¬ ((n : Int) < 1) := by omega
  have n2 : ¬ ((300 : Int) < n) := by omega
  clear hc hk hf hsum hmk hn
  go_enter Try.func4, Try.ntmps4
  go_upto_region 3 with (first
    | (go_at_call 21; refine (HWC.out _).mono ?_; rintro e w9 ⟨rfl, hh⟩; subst w9)
    | fail)
  obtain ⟨g, hg⟩ : ∃ g, g = w.heap.size := ⟨_, rfl⟩
  obtain ⟨W1, hW1⟩ : ∃ W1 : World, W1 = w.alloc (.cells #[.int .i64 0, .int .i64 0, .int .i64 0, .int .i64 0, .int .i64 0] 22) := ⟨_, rfl⟩
  have h1 : W1.heap[g]? = some (.cells (five fun _ => 0) 22 (0, 0)) := by rw [hW1, hg]; exact heap_alloc_new w _
  have b1 : Below w.heap.size w W1 := by rw [hW1]; exact below_alloc w _
  have d0 : W1.cell? ⟨g, c, none⟩ = some (.int .i64 0) := (cell_of h1 c).trans (five_at _ hc5)
  have f0 := frozen_of h1 c
  have h2 := heap_setCell_same W1 g c _ 22 (.int .i64 1) h1
  rw [five_set _ hc5] at h2
  have b2 := b1.setCell (p := ⟨g, c, none⟩) (Nat.le_of_eq hg.symm) (.int .i64 1)
  rw [← hW1, ← hg]
  have HG := Lib.hid hg
  clear hW1 hg
  go_upto_region 4 with (fail)
  obtain ⟨W2, hW2⟩ : ∃ W2 : World, W2 = W1.setCell ⟨g, c, none⟩ (.int .i64 1) := ⟨_, rfl⟩
  rw [← hW2] at h2 b2 ⊢
  rw [← HF.out] at h2
  clear hW2 d0 f0 h1 b1
  have d0 := (cell_of h2 0).trans (five_at _ (by decide : 0 < 5))
  have d1 := (cell_of h2 1).trans (five_at _ (by decide : 1 < 5))
  have d2 := (cell_of h2 2).trans (five_at _ (by decide : 2 < 5))
  have d3 := (cell_of h2 3).trans (five_at _ (by decide : 3 < 5))
  have d4 := (cell_of h2 4).trans (five_at _ (by decide : 4 < 5))
  have HB2 := Lib.hid b2
  clear h2 b2
  go_upto_region 5 with (first
    | (go_at_call 13; refine (HNEW.out _).mono ?_; rintro e w3 ⟨B, S, sl, P, I, V, xs, rfl, hla, hb3⟩
       have HLA := Lib.hid hla
       have HB3 := Lib.hid (HB2.out.trans (hb3.mono HB2.out.size))
       clear hla hb3)
    | fail)
  clear d0 d1 d2 d3 d4 HNEW
  have hmk := HMK.out k (by omega)
  go_upto_region 12 with (first
    | (go_at_call 21; refine (HWK.out _).mono ?_; rintro e w9 ⟨rfl, hh⟩; subst w9)
    | (go_at_call 22; refine (HSIZE.out _).mono ?_; rintro e w9 ⟨rfl, hh⟩; subst w9)
    | fail)
  clear hmk
  obtain ⟨gw, hgw⟩ : ∃ gw, gw = w3.heap.size := ⟨_, rfl⟩
  obtain ⟨W4, hW4⟩ : ∃ W4 : World, W4 = w3.alloc (.cells (madeCells #[.int .u64 0] k) 35) := ⟨_, rfl⟩
  rw [← hW4, ← hgw]
  have HGW := Lib.hid hgw
  have HW4 := Lib.hid hW4
  clear hgw hW4
  have HWL : Hid (Wl w3 W4 gw k 0 (fun i => IntKind.u64.wrap (vv + (i : Nat)))) := Lib.hid ⟨⟨List.replicate k 0, by rw [HW4.out, HGW.out, heap_alloc_new w3 _, made_zero], by simp, fun i hi => absurd hi (by omega)⟩, by rw [HW4.out]; exact below_alloc w3 _, Nat.le_of_eq HGW.out.symm⟩
  go_wp2
  go_loopw [56] (fun i W => ∃ j : Nat, i = .int .i64 j ∧ j ≤ k ∧ Hid (Wl w3 W gw k j (fun i => IntKind.u64.wrap (vv + (i : Nat))))) (fun i _ => k - (intOf i).toNat)
  case atStart => exact ⟨0, rfl, Nat.zero_le _, HWL⟩
  case round =>
    clear HWL
    obtain ⟨j, rfl, hj, HWL⟩ := hrel
    have j0 : (0 : Int) ≤ j := by omega
    by_cases hjk : j < k
    · have j1 : (j : Int) < k := by omega
      obtain ⟨v0, e0, f0⟩ := HWL.out.cell hjk
      have hcv : IntKind.u64.wrap ((j : Nat) : Int) = (j : Nat) := by rw [IntKind.wrap_u64]; omega
      go_wp2
      go_roundw
      case rel => exact ⟨j + 1, by go_num, by omega, Lib.hid (HWL.out.step hjk)⟩
      case measure => simp only [intOf]; omega
    · obtain rfl : k = j := by omega
      obtain ⟨l, hl1, hl2, hl3⟩ := HWL.out.row
      have HLl := Lib.hid hl1
      have HLn := Lib.hid hl2
      have HLf := Lib.hid hl3
      clear hl1 hl2 hl3
      have HLA2 := Lib.hid (HLA.out.on HWL.out.bel)
      obtain ⟨hne, i, hi, hx, hlv, hmin⟩ := HLA2.out.head hc5 (by omega)
      obtain rfl : i = 0 := by omega
      have hrd : Reads wr wr.heap.size 1 (some ⟨gw, 0, none⟩) k (wv l) := ⟨by rw [wv_len, HLn.out]; omega, fun _ => ⟨_, rfl, lt_of_heap HLl.out, fun j u hu => by
        have : (⟨gw, 0, none⟩ : Addr).add j = ⟨gw, j, none⟩ := by simp [Addr.add]; intro e; exact e.symm
        rw [this, cell_of HLl.out]; simpa using hu⟩⟩
      have hal := HLA2.out.alloc hc5 (by omega) (by omega) (by omega) (by omega) hi hx (cc := k) hrd (Nat.le_refl _) (fun ad e _ => by injection e with e; subst e; intro hf; have h9 : gw < w3.heap.size := HLA.out.footN.2 _ hf; have := HWL.out.ge; omega) (by rw [← HNC.out]; omega)
      obtain ⟨ref, href⟩ : ∃ ref, ref = refV ((0 : Nat) : Int) ((1 : Nat) : Int) (((c : Nat) : Int) == 0) := ⟨_, rfl⟩
      have HREF := Lib.hid href
      have HAL : Hid (Calls Try.prog 23 #[.pointer (some ⟨B, 0, none⟩), .int .i64 (c : Nat), .slice (some ⟨gw, 0, none⟩) k k] wr fun e w' => e = .returned (.tuple #[.int .i64 ref, .int .i64 0]) ∧ ∃ sl' V' xs', LA W2.heap.size B S 1 1 c 1 0 (up (fun _ => false) 0 true) (fun _ => 1) sl' P I V' xs' w' ∧ Mv (Foot B S 5 sl P I V) (Foot B S 5 sl' P I V') wr w' ∧ sl' = sl.set 0 (made (sl.getD 0 dS) l)) := Lib.hid (by rw [href]; exact hal)
      clear hne hx hlv hmin hrd hal href
      go_upto_region 18 with (first
        | (go_at_call 23; refine HAL.out.mono ?_; rintro e w5 ⟨rfl, sl5, V5, xs5, hla5, hmv5, hsl5⟩
           have HB5 := Lib.hid (hmv5.below (HB3.out.trans (HWL.out.bel.mono HB3.out.size)) (fun b hf => Nat.le_trans HB2.out.size (HLA2.out.footN.1 b hf)) (Nat.le_refl _))
           have HLA5 := Lib.hid hla5
           have HSL5 := Lib.hid hsl5
           clear hla5 hmv5 hsl5)
        | fail)
      have hs5 : sl5.getD 0 dS = made (sl.getD 0 dS) l := by rw [HSL5.out, getD_set (by rw [HLA2.out.len]; omega), if_pos rfl]
      have h0 := HLA2.out.all 0 (by omega)
      have hcl : (sl5.getD 0 dS).cls = c := by rw [hs5]; exact h0.1
      have hws : (sl5.getD 0 dS).ws = fillL n l := by rw [hs5]; show fillL (szN (sl.getD 0 dS).cls) l = _; rw [h0.1, ← HNC.out]
      have hgn : (sl5.getD 0 dS).gen = 1 := (HLA5.out.all 0 (by omega)).2.1
      have hli : (sl5.getD 0 dS).live = true := by rw [hs5]; rfl
      have hlv := live_ref (sl := sl5) (i := 0) (by rw [HLA5.out.len]; omega) (by omega) hli (by omega)
      rw [hcl, hgn, ← HREF.out] at hlv
      have hn5 : sl5.length ≤ 1024 := by rw [HLA5.out.len]; omega
      have hl5 : szN (sl5.getD 0 dS).cls = n := by rw [hcl, HNC.out]
      have HLV := Lib.hid hlv
      have HL5 := Lib.hid hl5
      have HWS := Lib.hid hws
      have HLOAD : Hid (∀ W, Below w5.heap.size w5 W → Calls Try.prog 16 #[.pointer (some ⟨B, 0, none⟩), .int .i64 ref] W fun e w' => ∃ b, e = .returned (.tuple #[.slice (some ⟨b, 0, none⟩) n n, .int .i64 0]) ∧ w'.heap[b]? = some (.cells (wv (fillL n l)).toArray 35 (0, 0)) ∧ W.heap.size ≤ b ∧ Below W.heap.size W w') := Lib.hid (fun W hb => by
        have := load_ok (HLA5.out.ar.on hb) hn5 hlv
        rw [hl5, hws] at this
        exact this)
      clear hs5 h0 hcl hws hgn hli hlv hl5
      go_upto_region 21 with (first
        | (go_at_call 16; refine (HLOAD.out _ (Below.refl _ _)).mono ?_; rintro e w6 ⟨b1, rfl, hb1, hge1, hbl6⟩
           have HR1 := Lib.hid hb1
           have HB6 := Lib.hid hbl6
           clear hb1 hge1 hbl6)
        | fail)
      have HFN : Hid ((fillL n l).length = n) := Lib.hid (fillL_len (by rw [HLn.out]; omega))
      go_wp2
      go_loopw [94] (fun i W => ∃ j : Nat, i = .int .i64 j ∧ j ≤ n ∧ W = w6) (fun i _ => n - (intOf i).toNat)
      case atStart => exact ⟨0, rfl, Nat.zero_le _, rfl⟩
      case round =>
        obtain ⟨j, rfl, hj, hww⟩ := hrel
        subst hww
        have j0 : (0 : Int) ≤ j := by omega
        by_cases hjn : j < n
        · have j1 : (j : Int) < n := by omega
          have e0 : wr.cell? ⟨b1, j, none⟩ = some (.int .u64 ((fillL n l).getD j 0)) := by
            rw [cell_of HR1.out]
            simp [wv, List.getElem?_eq_getElem (show j < (fillL n l).length by rw [HFN.out]; exact hjn), List.getD_eq_getElem?_getD]
          have hcv : IntKind.u64.wrap ((j : Nat) : Int) = (j : Nat) := by rw [IntKind.wrap_u64]; omega
          by_cases hjk : j < k
          · have hv : (fillL n l).getD j 0 = IntKind.u64.wrap (vv + (j : Nat)) := by
              rw [← HLf.out j hjk]
              unfold fillL
              rw [List.getD_eq_getElem?_getD, List.getElem?_append_left (by rw [HLn.out]; exact hjk), ← List.getD_eq_getElem?_getD]
            rw [hv] at e0
            have jk1 : (j : Int) < k := by omega
            clear hv
            go_wp2
            go_roundw
            case rel => exact ⟨j + 1, by go_num, by omega, by trivial⟩
            case measure => simp only [intOf]; omega
          · have hv : (fillL n l).getD j 0 = 0 := by
              unfold fillL
              rw [List.getD_eq_getElem?_getD, List.getElem?_append_right (by rw [HLn.out]; omega), List.getElem?_replicate]
              split <;> rfl
            rw [hv] at e0
            have jk1 : ¬ ((j : Int) < k) := by omega
            clear hv
            go_wp2
            go_roundw
            case rel => exact ⟨j + 1, by go_num, by omega, by trivial⟩
            case measure => simp only [intOf]; omega
        · obtain rfl : n = j := by omega
          obtain ⟨n1, hn1⟩ : ∃ n1, n1 = n + 1 := ⟨_, rfl⟩
          have hnn : (n : Int) + 1 = (n1 : Nat) := by omega
          have HN1 := Lib.hid hn1
          have hmk := HMK.out n1 (by omega)
          clear hn1
          obtain ⟨x0, hx0⟩ : ∃ x0, x0 = (fillL n l).getD 0 0 := ⟨_, rfl⟩
          have e0 : wr.cell? ⟨b1, 0, none⟩ = some (.int .u64 x0) := by
            rw [cell_of HR1.out, hx0]
            simp [wv, List.getElem?_eq_getElem (show 0 < (fillL n l).length by rw [HFN.out]; omega), List.getD_eq_getElem?_getD]
          clear hx0
          have nz : (0 : Int) < n := by omega
          go_upto_region 31 with (fail)
          obtain ⟨W7, hW7⟩ : ∃ W7 : World, W7 = wr.alloc (.cells (madeCells #[.int .u64 0] n1) 35) := ⟨_, rfl⟩
          have hb7 : Below wr.heap.size wr W7 := by rw [hW7]; exact below_alloc wr _
          obtain ⟨g7, hg7⟩ : ∃ g7, g7 = wr.heap.size := ⟨_, rfl⟩
          rw [← hW7, ← hg7]
          have HG7 := Lib.hid hg7
          have HB7 := Lib.hid hb7
          have HB57 := Lib.hid (HB6.out.trans (hb7.mono HB6.out.size))
          have e1 : W7.cell? ⟨b1, 0, none⟩ = some (.int .u64 x0) := (hb7.cell (World.block_lt_of_cell? _ _ e0)).trans e0
          clear hW7 hb7 hg7 hmk e0
          have HSWP := Lib.hid (fun W (hb : Below w5.heap.size w5 W) => swap_big (HLA5.out.ar.on hb) hn5 HLV.out x0 (some ⟨g7, 0, none⟩) n1 n1 (by rw [HL5.out, HN1.out]; omega))
          have HSTO := Lib.hid (fun W (hb : Below w5.heap.size w5 W) => store_big (HLA5.out.ar.on hb) hn5 HLV.out (some ⟨g7, 0, none⟩) n1 n1 (by rw [HL5.out, HN1.out]; omega))
          have HROOM : Hid (∀ W, Below w5.heap.size w5 W → Calls Try.prog 15 #[.pointer (some ⟨B, 0, none⟩), .int .i64 (c : Nat)] W fun e w' => e = .returned (.int .i64 0) ∧ w' = W) := Lib.hid (fun W hb => by
            have := room_in (HLA5.out.ar.on hb) c hc5
            rw [HLA5.out.cnt] at this
            exact this)
          have HLIVE : Hid (∀ W, Below w5.heap.size w5 W → Calls Try.prog 14 #[.pointer (some ⟨B, 0, none⟩)] W fun e w' => e = .returned (.int .i64 1) ∧ w' = W) := Lib.hid (fun W hb => (HLA5.out.on hb).live hc5 (by omega) (by omega))
          go_wp2_with (first
            | (go_at_call 17; refine (HSWP.out _ HB57.out).mono ?_; rintro e w9 ⟨rfl, hh⟩; subst w9)
            | (go_at_call 16; refine (HLOAD.out _ HB57.out).mono ?_; rintro e w8 ⟨b2, rfl, hb2, hge2, hbl8⟩
               have HR2 := Lib.hid hb2
               have HB8 := Lib.hid hbl8
               have HB58 := Lib.hid (HB57.out.trans (hbl8.mono HB57.out.size))
               clear hb2 hge2 hbl8)
            | (go_at_call 19; refine (HSTO.out _ HB58.out).mono ?_; rintro e w9 ⟨rfl, hh⟩; subst w9)
            | (go_at_call 24; refine (same_u w8.heap.size _ _ _ _ _ _ (fillL n l) (fillL n l) w8 (row_reads HR2.out HFN.out) (row_reads ((HB8.out.block b1 (by have := lt_of_heap HR1.out; have := HB7.out.size; omega)).trans ((HB7.out.block b1 (lt_of_heap HR1.out)).trans HR1.out)) HFN.out) (by omega) (by omega)).mono ?_; rw [eqB_true rfl]; rintro e w10 ⟨rfl, hb10⟩
               have HB510 := Lib.hid (HB58.out.trans (hb10.mono HB58.out.size))
               clear hb10)
            | (go_at_call 15; refine (HROOM.out _ HB510.out).mono ?_; rintro e w9 ⟨rfl, hh⟩; subst w9)
            | (go_at_call 14; refine (HLIVE.out _ HB510.out).mono ?_; rintro e w9 ⟨rfl, hh⟩; subst w9)
            | (go_at_call 20; refine (arenaRuns_any _).mono ?_; rintro e w11 ⟨rfl, hb11⟩)
            | fail)
          go_ret
          exact ⟨rfl, by
            have h1 := HB5.out.trans (HB510.out.mono HB5.out.size)
            exact h1.trans (hb11.mono h1.size)⟩
end Go.Proofs.Ytndmpdpmfieacaa
