/-
  The law NodeTurns at any numbers: the walk; conditions: the arguments are what their types allow.
-/
import Derived.Test.YtononinmjijhoaaNdg
import Derived.Test.YtononinmjijhoaaNd6
import Derived.Test.YtononinmjijhoaaNd7
namespace Go.Proofs.Ytononinmjijhoaa
open Go.RowKit Go.WideShapes Go.ChangeShapes
set_option linter.all false
theorem high_lt {c kd m : Int} (h1 : 1 ≤ c) (h4 : c ≤ 4) (k1 : 1 ≤ kd) (k4 : kd ≤ 4) (hc : ¬ m ≤ highV c) (hk : m ≤ highV kd) : c < kd := by
  rcases (show c = 1 ∨ c = 2 ∨ c = 3 ∨ c = 4 by omega) with rfl | rfl | rfl | rfl <;> rcases (show kd = 1 ∨ kd = 2 ∨ kd = 3 ∨ kd = 4 by omega) with rfl | rfl | rfl | rfl <;> simp [highV] at hc hk <;> omega
theorem high_pos {c : Int} (h1 : 1 ≤ c) (h4 : c ≤ 4) : 0 < highV c := by
  rcases (show c = 1 ∨ c = 2 ∨ c = 3 ∨ c = 4 by omega) with rfl | rfl | rfl | rfl <;> decide
theorem NodeL.to {kd wd c : Int} {pf : ByteArray} {xs ys : List Int} {n : Nat} (h : NodeL kd wd pf xs ys n) (hc : (n : Int) ≤ highV c) (h0 : 0 < highV c) : NodeL c 0 pf xs ys n := ⟨hc, h0, by decide, h.pref, h.asc, h.refs⟩
/-- A box's word set to nought. -/
theorem NX.word0 {B q c c' n : Nat} {kd wd : Int} {pf : ByteArray} {A A' : Option Addr} {xs ys : List Int} {w : World} (h : NX B q kd wd pf A c A' c' n xs ys w) : NX B q kd 0 pf A c A' c' n xs ys (w.setCell ⟨q, 1, none⟩ (.int .u64 0)) :=
  ⟨h.far, heap_setCell_same _ _ 1 _ _ (.int .u64 0) h.box, h.x.same fun g hg => heap_far (h.x.nobox h.box (by decide) hg) rfl, h.y.same fun g hg => heap_far (h.y.nobox h.box (by decide) hg) rfl⟩
theorem NX.far1 {B q q' c c' n j : Nat} {kd wd : Int} {pf : ByteArray} {A A' : Option Addr} {xs ys : List Int} {w : World} {cs : Array Value} {v : Value} (h : NX B q kd wd pf A c A' c' n xs ys w) (hq : q ≠ q') (hb : w.heap[q']? = some (.cells cs 28 (0, 0))) : NX B q kd wd pf A c A' c' n xs ys (w.setCell ⟨q', j, none⟩ v) :=
  ⟨h.far, heap_far hq h.box, h.x.same fun g hg => heap_far (h.x.nobox hb (by decide) hg) rfl, h.y.same fun g hg => heap_far (h.y.nobox hb (by decide) hg) rfl⟩
set_option maxRecDepth 100000 in
set_option maxHeartbeats 6400000 in
theorem turns_any (kk ww : Int) (pf : ByteArray) (A : Option Addr) (n c0 : Nat) (xs : List Int) (fr t1 : Int) (w : World) (hx : Reads w w.heap.size 1 A n (xs.map (Value.int .u8))) (hb : Byt xs) (hn : n ≤ maxLen) (hp : pf.size ≤ maxLen) (hw0 : 0 ≤ ww) (hw1 : ww < 18446744073709551616) :
    Calls Try.prog 3 #[.agg #[.int .i64 kk, .int .u64 ww, .string pf, .slice A n c0, .int .i64 fr], .int .i64 t1] w fun e w' => e = .returned (.bool true) ∧ Below w.heap.size w w' := by
  obtain ⟨k4, hk4, hk49⟩ := withinV_nat t1 4 (by omega)
  have HQ : Hid (0 + withinV t1 (3 - 0 + 1) = (k4 : Int)) := Lib.hid (by rw [← hk4]; show 0 + withinV t1 (3 - 0 + 1) = withinV t1 ((4 : Nat) : Int); rw [show ((3 : Int) - 0 + 1) = ((4 : Nat) : Int) from by omega]; omega)
  obtain ⟨c, hc⟩ : ∃ c, c = 1 + (k4 : Int) := ⟨_, rfl⟩
  have c1 : 1 ≤ c := by omega
  have c4 : c ≤ 4 := by omega
  have HC := Lib.hid hc
  have HBW : Hid (Below w.heap.size w (w.alloc (.cells #[.int .i64 kk, .int .u64 ww, .string pf, .slice A n c0, .int .i64 fr] 25))) := Lib.hid ((Below.refl _ _).alloc (Nat.le_refl _) _)
  have HX : Hid (Reads (w.alloc (.cells #[.int .i64 kk, .int .u64 ww, .string pf, .slice A n c0, .int .i64 fr] 25)) (w.alloc (.cells #[.int .i64 kk, .int .u64 ww, .string pf, .slice A n c0, .int .i64 fr] 25)).heap.size 1 A n (xs.map (Value.int .u8))) := Lib.hid ((hx.below HBW.out).more HBW.out.size)
  have HBY := Lib.hid hb
  have HWX := Lib.hid (And.intro hw0 hw1)
  clear hx hb hw0 hw1 hk4 hc
  go_enter Try.func3, Try.ntmps3
  go_upto_region 3 with (first
    | (go_at_call 9; refine (made_any kk ww pf A n c0 xs fr _ HX.out HBY.out hn hp HWX.out.1 HWX.out.2).mono ?_
       rintro e w1 ⟨v, kd, wd, pf', zs, ks, m, rfl, hnl, hm, hpw, hby, hk1, hkd4, hwd0, hwd1, D, d, D', d', rfl, hmx, hmy, hb1⟩
       unfold nodeV
       have NW : NX w.heap.size w1.heap.size kd wd pf' D d D' d' m zs ks _ := NX.new (kd := kd) (wd := wd) (pf := pf') HBW.out.size hb1.size hmx hmy
       have BZ := (HBW.out.trans (hb1.mono HBW.out.size)).alloc (by have := HBW.out.size; have := hb1.size; omega) (.cells #[.int .i64 kd, .int .u64 wd, .string pf', .slice D m d, .slice D' m d'] 28)
       obtain ⟨wz, hwz⟩ : ∃ wz, w1.alloc (.cells #[.int .i64 kd, .int .u64 wd, .string pf', .slice D m d, .slice D' m d'] 28) = wz := ⟨_, rfl⟩
       rw [hwz] at NW BZ
       obtain ⟨q, hq⟩ : ∃ q, w1.heap.size = q := ⟨_, rfl⟩
       rw [hq] at NW
       have HWZ := Lib.hid hwz
       have HQE := Lib.hid hq
       have HN := Lib.hid NW
       have HB := Lib.hid BZ
       have HNL := Lib.hid hnl
       clear hwz hq NW BZ hmx hmy hb1 hnl hpw hby)
    | (go_at_call 10; refine (within_any _ 0 3 (by omega) (by omega) (by omega) _).mono ?_; rintro e w' ⟨rfl, rfl⟩; rw [HQ.out])
    | fail)
  rw [HWZ.out, HQE.out, ← HC.out]
  clear HWZ HQE HC HQ HX HBW HBY HWX
  have p0 := cell_of HN.out.box 0
  have p1 := cell_of HN.out.box 1
  have p2 := cell_of HN.out.box 2
  have p3 := cell_of HN.out.box 3
  have p4 := cell_of HN.out.box 4
  have HCP := Lib.hid (high_pos c1 c4)
  by_cases hfit : (m : Int) ≤ highV c
  · have HNL2 := Lib.hid (HNL.out.to hfit HCP.out)
    go_upto_region 4 with (first
      | (go_at_call 11; refine (turn_yes kd wd pf' D d D' d' m zs ks c _ HNL.out hm hfit HCP.out HN.out.x.reads HN.out.y.reads).mono ?_
         rintro e w2 ⟨v, rfl, G, g, G', g', rfl, hmx, hmy, hb2⟩
         unfold nodeV
         have NW : NX w.heap.size w2.heap.size c 0 pf' G g G' g' m zs ks _ := NX.new (kd := c) (wd := 0) (pf := pf') HB.out.size hb2.size hmx hmy
         have hal := (Below.refl w2.heap.size w2).alloc (Nat.le_refl _) (.cells #[.int .i64 c, .int .u64 0, .string pf', .slice G m g, .slice G' m g'] 28)
         have BZ := (HB.out.trans (hb2.mono HB.out.size)).trans (hal.mono (by have := HB.out.size; have := hb2.size; omega))
         have NZ := (HN.out.keep hb2).keep hal
         obtain ⟨w3, hw3⟩ : ∃ w3, w2.alloc (.cells #[.int .i64 c, .int .u64 0, .string pf', .slice G m g, .slice G' m g'] 28) = w3 := ⟨_, rfl⟩
         rw [hw3] at NW BZ NZ
         have hqq : q ≠ w2.heap.size := by have := lt_of_heap HN.out.box; have := hb2.size; omega
         obtain ⟨q2, hq2⟩ : ∃ q2, w2.heap.size = q2 := ⟨_, rfl⟩
         rw [hq2] at NW hqq
         have HW3 := Lib.hid hw3
         have HQ2 := Lib.hid hq2
         have HN2 := Lib.hid NW
         have HN1 := Lib.hid NZ
         have HB3 := Lib.hid BZ
         have HQQ := Lib.hid hqq
         clear hw3 hq2 NW NZ BZ hmx hmy hb2 hal hqq)
      | fail)
    rw [HW3.out, HQ2.out]
    clear HW3 HQ2 p0 p1 p2 p3 p4
    have r0 := cell_of HN1.out.box 0
    have r1 := cell_of HN1.out.box 1
    have r2 := cell_of HN1.out.box 2
    have r3 := cell_of HN1.out.box 3
    have r4 := cell_of HN1.out.box 4
    go_quiet ((go_at_call 12; exact Calls.quiet_of_same (high_any c _)))
    have hd := belowN (Below.refl w3.heap.size w3) nq
    have H1 := Lib.hid (HN1.out.keep hd)
    have H2 := Lib.hid (HN2.out.keep hd)
    have HB4 := Lib.hid (belowN HB3.out nq)
    clear hd HN HN1 HN2 HB3 HB r0 r1 r2 r3 r4
    generalize w3.drewN nq = w4 at *
    have a0 := cell_of H2.out.box 0
    have a1 := cell_of H2.out.box 1
    have a2 := cell_of H2.out.box 2
    have a3 := cell_of H2.out.box 3
    have a4 := cell_of H2.out.box 4
    have b0 := cell_of H1.out.box 0
    have HHI := Lib.hid (And.intro HNL.out.high HNL.out.kind)
    go_upto_region 9 with (first
      | (go_at_call 11; refine (turn_yes c 0 pf' G g G' g' m zs ks kd _ HNL2.out hm HHI.out.1 HHI.out.2 H2.out.x.reads H2.out.y.reads).mono ?_
         rintro e w5 ⟨v, rfl, E, e1, E', e2, rfl, hmx, hmy, hb5⟩
         unfold nodeV
         have NW : NX w.heap.size w5.heap.size kd 0 pf' E e1 E' e2 m zs ks _ := NX.new (kd := kd) (wd := 0) (pf := pf') HB4.out.size hb5.size hmx hmy
         have hal := (Below.refl w5.heap.size w5).alloc (Nat.le_refl _) (.cells #[.int .i64 kd, .int .u64 0, .string pf', .slice E m e1, .slice E' m e2] 28)
         have BZ := (HB4.out.trans (hb5.mono HB4.out.size)).trans (hal.mono (by have := HB4.out.size; have := hb5.size; omega))
         have NZ1 := (H1.out.keep hb5).keep hal
         have NZ2 := (H2.out.keep hb5).keep hal
         have n1 : q ≠ w5.heap.size := by have := lt_of_heap H1.out.box; have := hb5.size; omega
         have n2 : q2 ≠ w5.heap.size := by have := lt_of_heap H2.out.box; have := hb5.size; omega
         obtain ⟨w6, hw6⟩ : ∃ w6, w5.alloc (.cells #[.int .i64 kd, .int .u64 0, .string pf', .slice E m e1, .slice E' m e2] 28) = w6 := ⟨_, rfl⟩
         rw [hw6] at NW BZ NZ1 NZ2
         obtain ⟨q3, hq3⟩ : ∃ q3, w5.heap.size = q3 := ⟨_, rfl⟩
         rw [hq3] at NW n1 n2
         have HW6 := Lib.hid hw6
         have HQ3 := Lib.hid hq3
         have K3 := Lib.hid NW
         have K1 := Lib.hid NZ1
         have K2 := Lib.hid NZ2
         have HB6 := Lib.hid BZ
         have HNE := Lib.hid (And.intro n1 n2)
         clear hw6 hq3 NW NZ1 NZ2 BZ hmx hmy hb5 hal n1 n2)
      | fail)
    rw [HW6.out, HQ3.out]
    clear HW6 HQ3 a0 a1 a2 a3 a4 b0 H1 H2 HB4
    have z1 := cell_of K1.out.box 1
    have y1 := frozen_of K1.out.box 1
    go_upto_region 10 with (fail)
    have L1 := Lib.hid K1.out.word0
    have L2 := Lib.hid (K2.out.far1 (j := 1) (v := .int .u64 0) (fun e => HQQ.out e.symm) K1.out.box)
    have L3 := Lib.hid (K3.out.far1 (j := 1) (v := .int .u64 0) (fun e => HNE.out.1 e.symm) K1.out.box)
    have HB7 := Lib.hid (HB6.out.setCell (p := ⟨q, 1, none⟩) K1.out.far (.int .u64 0))
    clear K1 K2 K3 HB6 z1 y1
    generalize w6.setCell ⟨q, 1, none⟩ (.int .u64 0) = w7 at *
    have a0 := cell_of L3.out.box 0
    have a1 := cell_of L3.out.box 1
    have a2 := cell_of L3.out.box 2
    have a3 := cell_of L3.out.box 3
    have a4 := cell_of L3.out.box 4
    have r0 := cell_of L1.out.box 0
    have r1 := cell_of L1.out.box 1
    have r2 := cell_of L1.out.box 2
    have r3 := cell_of L1.out.box 3
    have r4 := cell_of L1.out.box 4
    have F1 : Hid True := trivial
    go_wp2_with (first
      | (go_at_call 14; clear F1; refine (sameN_any kd 0 pf' E e1 E' e2 D d D' d' m zs ks w7 hm L3.out.x.reads L3.out.y.reads L1.out.x.reads L1.out.y.reads).mono ?_
         rintro e w8 ⟨rfl, hb8⟩
         have M1 := Lib.hid (L1.out.keep hb8)
         have M2 := Lib.hid (L2.out.keep hb8)
         have HB8 := Lib.hid (HB7.out.trans (hb8.mono HB7.out.size))
         have s3 := cell_of M1.out.box 3
         have s4 := cell_of M1.out.box 4
         have t0 := cell_of M2.out.box 0
         have t1 := cell_of M2.out.box 1
         have t3 := cell_of M2.out.box 3
         have t4 := cell_of M2.out.box 4
         clear hb8)
      | (go_at_call 15; refine (same_u8 w8.heap.size G D m m g d zs zs _ M2.out.x.reads M1.out.x.reads (by omega) (by omega)).mono ?_
         rintro e w9 ⟨rfl, nq9, rfl⟩
         rw [decide_eq_true rfl])
      | (go_at_call 16; refine (same_i64 w8.heap.size G' D' m m g' d' ks ks _ (M2.out.y.reads.drewN nq9) (M1.out.y.reads.drewN nq9) (by omega) (by omega)).mono ?_
         rintro e w10 ⟨rfl, nq10, rfl⟩
         rw [decide_eq_true rfl])
      | (go_at_call 13; refine (runs_any _).mono ?_
         rintro e w11 ⟨rfl, hb11⟩
         have HB9 : Hid (Below w.heap.size w w11) := Lib.hid ((belowN HB8.out _).trans (hb11.mono (by have := HB8.out.size; exact this)))
         clear hb11)
      | fail)
    go_ret
    exact ⟨rfl, HB9.out⟩
  · have HLT := high_lt c1 c4 hk1 hkd4 hfit HNL.out.high
    have hlt2 : highV c < (m : Int) := by omega
    go_upto_region 4 with (first
      | (go_at_call 11; refine (turn_no kd wd pf' D d D' d' m zs ks c _ HNL.out hm hlt2 HN.out.x.reads HN.out.y.reads).mono ?_
         rintro e w2 ⟨rfl, hb2⟩
         unfold nodeV
         have hal := (Below.refl w2.heap.size w2).alloc (Nat.le_refl _) (.cells #[.int .i64 0, .int .u64 0, .string ⟨#[]⟩, .slice none 0 0, .slice none 0 0] 28)
         have BZ := (HB.out.trans (hb2.mono HB.out.size)).trans (hal.mono (by have := HB.out.size; have := hb2.size; omega))
         have NZ := (HN.out.keep hb2).keep hal
         obtain ⟨w3, hw3⟩ : ∃ w3, w2.alloc (.cells #[.int .i64 0, .int .u64 0, .string ⟨#[]⟩, .slice none 0 0, .slice none 0 0] 28) = w3 := ⟨_, rfl⟩
         rw [hw3] at BZ NZ
         have HW3 := Lib.hid hw3
         have HN1 := Lib.hid NZ
         have HB3 := Lib.hid BZ
         clear hw3 NZ BZ hb2 hal)
      | fail)
    rw [HW3.out]
    clear HW3 p0 p1 p2 p3 p4
    have r0 := cell_of HN1.out.box 0
    have r1 := cell_of HN1.out.box 1
    have r2 := cell_of HN1.out.box 2
    have r3 := cell_of HN1.out.box 3
    have r4 := cell_of HN1.out.box 4
    go_quiet ((go_at_call 12; exact Calls.quiet_of_same (high_any c _)))
    go_wp2_with (first
      | (go_at_call 13; refine (runs_any _).mono ?_
         rintro e w11 ⟨rfl, hb11⟩
         have HB9 : Hid (Below w.heap.size w w11) := Lib.hid ((belowN HB3.out nq).trans (hb11.mono (by have := HB3.out.size; exact this)))
         clear hb11)
      | fail)
    go_ret
    exact ⟨rfl, HB9.out⟩
end Go.Proofs.Ytononinmjijhoaa
