/-
  PostingPlays where more ids are given; conditions: lengths.
-/
import Derived.Test.YtokjeglhmmijfaaPt6
import Derived.Test.YtokjeglhmmijfaaFr
namespace Go.Proofs.Ytokjeglhmmijfaa
open Go.RowKit Go.WideShapes Go.ChangeShapes
set_option linter.all false
set_option maxRecDepth 100000 in
set_option maxHeartbeats 6400000 in
theorem plays_gt (w : World) (A : Option Addr) (n c : Nat) (x : List Int) (A' : Option Addr) (n' c' : Nat) (F : Nat → Nat → Int) (r : Reads w w.heap.size 1 A n (x.map (Value.int .i64))) (hc : n ≤ c) (hm : c ≤ maxLen) (r' : Recs w A' n' 3 F) (hc' : n' ≤ c') (hm' : c' ≤ maxLen) (hcs : n > 100) :
    Calls Try.prog 9 #[.slice A n c, .slice A' n' c'] w fun e w' => e = .returned (.bool true) ∧ Below w.heap.size w w' := by
  have hsk : SK .i64 w w.heap.size A n c x := SK.of r hc hm
  have hc9 : c ≤ 9223372036854775807 := by unfold maxLen at hm; omega
  have hc9' : c' ≤ 9223372036854775807 := by unfold maxLen at hm'; omega
  have HR' := Lib.hid r'
  obtain ⟨N, hN⟩ : ∃ N, N = min n 100 := ⟨_, rfl⟩
  obtain ⟨l, hl⟩ : ∃ l, l = x.take N := ⟨_, rfl⟩
  have HS : Hid (SK .i64 w w.heap.size A N c l) := Lib.hid (by rw [hl]; exact hsk.take (by omega))
  have HLN : Hid (l.length = N) := Lib.hid HS.out.len
  have hNn : N ≤ n := by omega
  have hN9 : N ≤ 100 := by omega
  have h1 := hcs
  have h2 : N = 100 := by omega
  clear hcs
  clear r r' hm hm' hsk hl hN
  go_enter Try.func9, Try.ntmps9
  have HH2 := Lib.hid h2
  clear h2
  go_upto_region 3 with (fail)
  rw [show Value.slice A 100 c = Value.slice A N c from by rw [HH2.out]]
  all_goals
    clear HH2 h1
    generalize decide (100 < (n : Int)) = b30
    go_upto_region 4 with (first
      | (go_at_call 22; refine (roomy_i A N c l (-4) _ HS.out.2.2.2 (by omega)).mono ?_; rintro e w1 ⟨rfl, hw1, hb1⟩; unfold sl; rw [HLN.out]; have HW1 := Lib.hid hw1; have HB1 := Lib.hid hb1; clear hw1 hb1)
      | fail)
    obtain ⟨g, hg⟩ : ∃ g, g = w.heap.size := ⟨_, rfl⟩
    have HG := Lib.hid hg
    rw [← hg] at HW1
    rw [show (⟨w.heap.size, 0, none⟩ : Addr) = ⟨g, 0, none⟩ from by rw [hg]]
    clear hg
    have hgl := Blk.lt HW1.out
    have hrr := room_reads HW1.out hgl HLN.out
    have HSR : Hid (SK .i64 w1 w1.heap.size (some ⟨g, 0, none⟩) N (N + 80) l) := Lib.hid (SK.of hrr (by omega) (by unfold maxLen; omega))
    clear hrr hgl
    have hRX := ofX_right l
    have hLX : (ofX l).flatten.length ≤ 100 := by have := ofX_len l; rw [HLN.out] at this; omega
    have hLF := len_flat hRX
    obtain ⟨L0, hL0⟩ : ∃ L0, L0 = ofX l := ⟨_, rfl⟩
    obtain ⟨k0, hk0⟩ : ∃ k0, k0 = ofC l := ⟨_, rfl⟩
    rw [← hL0] at hRX hLX hLF
    have HPO : Hid (∀ W, Below w1.heap.size w1 W → Calls Try.prog 10 #[.slice (some ⟨g, 0, none⟩) N (N + 80)] W (OfP L0 k0 F0 W)) := Lib.hid (fun W hb => by rw [hL0, hk0]; exact prog_of _ _ _ l W (HSR.out.on hb) (by omega))
    have HRO : Hid (∀ W, Below w.heap.size w W → Calls Try.prog 23 #[.slice A N c] W fun e w' => ∃ A' c' own, e = .returned (.tuple #[.slice A' L0.length c', .int .i64 k0]) ∧ Below W.heap.size W w' ∧ OO w' W.heap.size (.slice A' L0.length c') own ∧ own.map Ar.l = L0.map nb) := Lib.hid (fun W hb => by rw [hL0, hk0]; exact ref_of _ _ _ l W (HS.out.on hb) (by omega))
    have HRX := Lib.hid hRX
    obtain ⟨n0, hn0⟩ : ∃ n0, n0 = L0.length := ⟨_, rfl⟩
    have hn09 : n0 ≤ 100 := by omega
    have HLX := Lib.hid hLX
    have HN0 := Lib.hid hn0
    clear hL0 hk0 hRX hLX hLF hn0
    go_upto_region 5 with (first
      | (go_at_call 10; refine (HPO.out _ (Below.refl _ _)).mono ?_; rintro e w2 ⟨A2, c2, rfl, hb2, hp2⟩
         rw [← HN0.out] at hp2 ⊢
         have HP2 := Lib.hid hp2
         have HB2 := Lib.hid hb2
         clear hb2 hp2)
      | fail)
    obtain ⟨W2, hW2⟩ : ∃ W2, W2 = w2.alloc (Obj.cells #[Value.slice A2 n0 c2] 24) := ⟨_, rfl⟩
    have HX2 : Hid (PBox A2 n0 c2 w2 W2) := Lib.hid (by rw [hW2]; exact PBox.new _ _ _ _)
    have HSZ : Hid (w.heap.size ≤ W2.heap.size) := Lib.hid (Nat.le_trans HB1.out.size (Nat.le_trans HB2.out.size HX2.out.bel.size))
    rw [← hW2]
    clear hW2
    go_upto_region 6 with (first
      | (go_at_call 23; refine (HRO.out _ (HB1.out.trans ((HB2.out.trans (HX2.out.bel.mono HB2.out.size)).mono HB1.out.size))).mono ?_; rintro e w3 ⟨A3, c3, own3, rfl, hb3, ho3, hm3⟩
         rw [← HN0.out] at ho3 ⊢
         have HX2 := Lib.hid (HX2.out.on hb3)
         have HO3 := Lib.hid ho3
         have HM3 := Lib.hid hm3
         clear hb3 ho3 hm3)
      | fail)
    have HPB := Lib.hid HX2.out.cell
    have q2 := HX2.out.cell
    have hB3 : Below w1.heap.size w1 w3 := HB2.out.trans (HX2.out.bel.mono HB2.out.size)
    have HB3 := Lib.hid hB3
    have HBw3 := Lib.hid (HB1.out.trans (hB3.mono HB1.out.size))
    have HP3 := Lib.hid (HP2.out.on HX2.out.bel)
    have HW3 := Lib.hid (HW1.out.on hB3)
    clear hB3
    go_upto_region 8 with (first
      | (go_at_call 24; refine (intact_i A N c g l (-4) _ ((HS.out.on HBw3.out).2.2.2) (Blk.lt HW3.out) HW3.out (by omega)).mono ?_; rintro e w4 ⟨rfl, hb4⟩
         have HX4 := Lib.hid (HX2.out.on hb4)
         have q4 := HX4.out.cell
         have HB4 := Lib.hid hb4
         clear hb4)
      | (go_at_call 14; refine (blocksEq_any A2 A3 n0 c2 n0 c3 L0 own3 _ ((HP3.out.on HB4.out).pl) HRX.out (by omega) ((HO3.out.lk (by rw [maps_len HM3.out, HN0.out])).on HB4.out) HM3.out).mono ?_; rintro e w5 ⟨rfl, hb5⟩
         have HX5 := Lib.hid (HX4.out.on hb5)
         have q5 := HX5.out.cell
         have HB5 := Lib.hid (HB4.out.trans (hb5.mono HB4.out.size))
         clear hb5)
      | fail)
    have HPV : Hid (Pv w _ _ _ 1 100 _ _ _) := Lib.hid (Pv.first (W := w5) (HBw3.out.trans (HB5.out.mono HBw3.out.size)) (HP3.out.on HB5.out) HRX.out HN0.out HLX.out HSZ.out (HO3.out.onb HB5.out) HM3.out)
    go_wp2
    go_loopw [10, 11, 12] (fun xs ys i W => ∃ (j m : Nat) (VX VY : Value), i = .int .i64 j ∧ j ≤ n' ∧ j ≤ 60 ∧ xs = VX ∧ ys = VY ∧ 1 ≤ m ∧ m ≤ 1 + j ∧ Hid (∃ X Y Ls, Pv w W VX VY m (100 + j) X Y Ls)) (fun _ _ i _ => 60 - (intOf i).toNat)
    case atStart => exact ⟨0, 1, _, _, rfl, Nat.zero_le _, Nat.zero_le _, rfl, rfl, Nat.le_refl _, Nat.le_refl _, Lib.hid ⟨_, _, _, HPV.out⟩⟩
    case round =>
      clear HPV
      obtain ⟨j, m, VX, VY, rfl, hj, hj6, hVX, hVY, hm1, hmj, HPX⟩ := hrel
      subst hVX hVY
      obtain ⟨X, Y, Ls, hpv⟩ := HPX.out
      have HPV := Lib.hid hpv
      clear HPX hpv
      have j0 : (0 : Int) ≤ j := by omega
      by_cases hlt : j < n' ∧ j < 60
      · obtain ⟨hl1, hl2⟩ := hlt
        obtain ⟨ad', rfl, hbl', hcl⟩ := HR'.out j hl1
        have hBW := HPV.out.bel
        have f0 : wr.cell? (ad'.add (j * 3)) = some (.int .i64 (F j 0)) := (hBW.cell (p := ad'.add (j * 3)) (by rw [block_of_add]; exact hbl')).trans (by have := hcl 0 (by omega); simpa using this)
        have f1 : wr.cell? ⟨(ad'.add (j * 3)).block, (ad'.add (j * 3)).off + 1, none⟩ = some (.int .i64 (F j 1)) := by
          have e2 : (⟨(ad'.add (j * 3)).block, (ad'.add (j * 3)).off + 1, none⟩ : Addr) = (ad'.add (j * 3)).add 1 := rfl
          rw [e2, add_of_add]; exact (hBW.cell (p := ad'.add (j * 3 + 1)) (by rw [block_of_add]; exact hbl')).trans (hcl 1 (by omega))
        have f2 : wr.cell? ⟨(ad'.add (j * 3)).block, (ad'.add (j * 3)).off + 2, none⟩ = some (.int .i64 (F j 2)) := by
          have e2 : (⟨(ad'.add (j * 3)).block, (ad'.add (j * 3)).off + 2, none⟩ : Addr) = (ad'.add (j * 3)).add 2 := rfl
          rw [e2, add_of_add]; exact (hBW.cell (p := ad'.add (j * 3 + 2)) (by rw [block_of_add]; exact hbl')).trans (hcl 2 (by omega))
        have hblk : (ad'.add (j * 3)).block < w.heap.size := by rw [block_of_add]; exact hbl'
        have HK1 := Lib.hid (hcl 1 (by omega))
        generalize F j 0 = kd at *
        generalize F j 1 = id at *
        generalize F j 2 = bk at *
        clear hcl
        obtain ⟨ax, cx, ex⟩ := HPV.out.rx.form
        obtain ⟨ay, cy, ey⟩ := HPV.out.ry.form
        subst ex ey
        obtain ⟨h5, hh5⟩ : ∃ h5, h5 = min (m - 1) 5 := ⟨_, rfl⟩
        have hmin : (min ((m : Int) - 1) 5) = (h5 : Int) := by omega
        obtain ⟨q, hq, hq9⟩ := withinV_nat bk (h5 + 1) (by omega)
        obtain ⟨k, hk⟩ : ∃ k, k = m - 1 - q := ⟨_, rfl⟩
        have hkm : k < m := by omega
        have hw1 : Hid (∀ W, Calls Try.prog 19 #[.int .i64 bk, .int .i64 0, .int .i64 (min ((m : Int) - 1) 5)] W fun e w' => e = .returned (.int .i64 q) ∧ W = w') := Lib.hid (fun W => by
          rw [hmin]
          have := within_any bk h5 (by omega) (by omega) W
          rw [show ((h5 : Int) + 1) = ((h5 + 1 : Nat) : Int) from by omega, hq] at this
          exact this)
        have hmq : (m : Int) - 1 - q = k := by omega
        have HMQ := Lib.hid hmq
        clear hq hh5 hmin hk
        go_upto_region 13 with (first
          | (go_at_call 19; refine (hw1.out _).mono ?_; rintro e w9 ⟨rfl, rfl⟩)
          | fail)
        obtain ⟨ax0, cx0, ay0, cy0, A4, n4, c4, A5, n5, c5, own5, ex, ey, gx, gy, hRL, hfl, hpl, hoo, hom, hn5, hn4⟩ := HPV.out.cell hkm
        obtain ⟨ex1, ex3⟩ : ax = some ax0 ∧ cx = cx0 := by injection ex with h1 h2 h3; exact ⟨h1, h3⟩
        obtain ⟨ey1, ey3⟩ : ay = some ay0 ∧ cy = cy0 := by injection ey with h1 h2 h3; exact ⟨h1, h3⟩
        clear ex ey hmq
        subst ex1 ex3 ey1 ey3
        have k00 : (0 : Int) ≤ k := by omega
        go_upto_region 14 with (fail)
        clear f0 f2
        by_cases hk1 : kd = 1
        · have hkk1 : (kd == 1) = true := by simp [hk1]
          clear hk1
          as_aux_lemma =>
            have hll := len_flat hRL
            obtain ⟨L, hL⟩ : ∃ L, L = Ls.getD k [] := ⟨_, rfl⟩
            rw [← hL] at hRL hfl hpl hom hn5 hn4 hll
            have hn59 : n5 ≤ 200 := by omega
            have hn49 : n4 ≤ 200 := by omega
            have HRL := Lib.hid hRL
            have HPL := Lib.hid hpl
            have HOO := Lib.hid hoo
            have HOM := Lib.hid hom
            have HN5 := Lib.hid hn5
            obtain ⟨L6, hL6⟩ : ∃ L6, L6 = addX id L := ⟨_, rfl⟩
            obtain ⟨ao, hao⟩ : ∃ ao, ao = addO id L := ⟨_, rfl⟩
            have HADD : Hid (∀ (F : Nat → Prop) W, (∀ b, F b → b < W.heap.size) → PLF W F A4 n4 c4 L → Calls Try.prog 12 #[plV A4 n4 c4, .int .i64 id] W (AddP F L6 ao W)) := Lib.hid (fun F W hF hp => by rw [hL6, hao]; exact prog_addF F A4 n4 c4 L id W hF hp HRL.out (by omega))
            have HREF : Hid (∀ W, LK .i64 W W.heap.size A5 n5 c5 own5 → Calls Try.prog 25 #[.slice A5 n5 c5, .int .i64 id] W (RefR L6 ao W)) := Lib.hid (fun W h => by rw [hL6, hao]; exact ref_add A5 n5 c5 L own5 id W h HOM.out HRL.out (by omega))
            have hR6 : RL L6 := by rw [hL6]; exact addX_right HRL.out
            have HR6 := Lib.hid hR6
            have hf6 : L6.flatten.length ≤ 100 + j + 1 := by rw [hL6]; have := addX_len (x := id) HRL.out; omega
            have hll6 := len_flat hR6
            obtain ⟨n6, hn6⟩ : ∃ n6, n6 = L6.length := ⟨_, rfl⟩
            have HN6 := Lib.hid hn6
            have HF6 := Lib.hid hf6
            have hn69 : n6 ≤ 200 := by omega
            clear hL hRL hfl hpl hoo hom hn5 hn4 hll hL6 hao hR6 hf6 hll6 hn6
            go_upto_region 15 with (fail)
            obtain ⟨Wd, hWd⟩ : ∃ Wd : World, Wd = wr.drew := ⟨_, rfl⟩
            have HBd : Hid (Below wr.heap.size wr Wd) := Lib.hid (by rw [hWd]; exact below_drew wr)
            have hS : Two (ax0.add k) ⟨(ad'.add (j * 3)).block, (ad'.add (j * 3)).off + 1, none⟩ (.slice A4 n4 c4) (.int .i64 id) Wd := by rw [hWd]; exact ⟨gx, f1⟩
            have HRB := Lib.hid HPV.out.rb
            refine wp_region_K (Two (ax0.add k) ⟨(ad'.add (j * 3)).block, (ad'.add (j * 3)).off + 1, none⟩ (.slice A4 n4 c4) (.int .i64 id)) 14 (by kernel_rfl) ?_
            rw [← hWd]
            clear hWd
            refine wpAnyK_pure (i := 0) (oi := _) (v := ?_) (by rfl) (by kernel_rfl) (by intro _ _ _ h; exact h) (Or.inl ⟨by rfl, ?_⟩) ?_
            rotate_left 1
            · intro w' _
              go_simp
              all_goals with_reducible rfl
            simp only [Act.put, List.getElem_toArray, List.getElem_cons_zero, List.getElem_cons_succ, List.setIfInBounds_toArray, List.set_cons_zero, List.set_cons_succ]
            refine wpAnyK_pure (i := 1) (oi := _) (v := ?_) (by rfl) (by kernel_rfl) (by intro _ _ _ h; exact h) (Or.inl ⟨by rfl, ?_⟩) ?_
            rotate_left 1
            · intro w' _
              go_simp
              all_goals with_reducible rfl
            simp only [Act.put, List.getElem_toArray, List.getElem_cons_zero, List.getElem_cons_succ, List.setIfInBounds_toArray, List.set_cons_zero, List.set_cons_succ]
            refine wpAnyK_pure (i := 2) (oi := _) (v := ?_) (by rfl) (by kernel_rfl) (by intro _ _ _ h; exact h) (Or.inl ⟨by rfl, ?_⟩) ?_
            rotate_left 1
            · intro w' _
              go_simp
              all_goals with_reducible rfl
            simp only [Act.put, List.getElem_toArray, List.getElem_cons_zero, List.getElem_cons_succ, List.setIfInBounds_toArray, List.set_cons_zero, List.set_cons_succ]
            refine wpAnyK_take (i := 3) (oi := _) (v := ?_) (by rfl) (by kernel_rfl) (by intro _ _ _ h; exact h) hS (Or.inl ⟨by rfl, ?_⟩) ?_
            rotate_left 1
            · intro w' hl
              have hl1 := hl.1
              have hl2 := hl.2
              clear hl
              go_simp
              all_goals with_reducible rfl
            simp only [Act.put, List.getElem_toArray, List.getElem_cons_zero, List.getElem_cons_succ, List.setIfInBounds_toArray, List.set_cons_zero, List.set_cons_succ]
            refine wpAnyK_pure (i := 4) (oi := _) (v := ?_) (by rfl) (by kernel_rfl) (by intro _ _ _ h; exact h) (Or.inl ⟨by rfl, ?_⟩) ?_
            rotate_left 1
            · intro w' _
              go_simp
              all_goals with_reducible rfl
            simp only [Act.put, List.getElem_toArray, List.getElem_cons_zero, List.getElem_cons_succ, List.setIfInBounds_toArray, List.set_cons_zero, List.set_cons_succ]
            refine wpAnyK_pure (i := 5) (oi := _) (v := ?_) (by rfl) (by kernel_rfl) (by intro _ _ _ h; exact h) (Or.inl ⟨by rfl, ?_⟩) ?_
            rotate_left 1
            · intro w' _
              go_simp
              all_goals with_reducible rfl
            simp only [Act.put, List.getElem_toArray, List.getElem_cons_zero, List.getElem_cons_succ, List.setIfInBounds_toArray, List.set_cons_zero, List.set_cons_succ]
            refine wpAnyK_pure (i := 6) (oi := _) (v := ?_) (by rfl) (by kernel_rfl) (by intro _ _ _ h; exact h) (Or.inl ⟨by rfl, ?_⟩) ?_
            rotate_left 1
            · intro w' _
              go_simp
              all_goals with_reducible rfl
            simp only [Act.put, List.getElem_toArray, List.getElem_cons_zero, List.getElem_cons_succ, List.setIfInBounds_toArray, List.set_cons_zero, List.set_cons_succ]
            refine wpAnyK_pure (i := 7) (oi := _) (v := ?_) (by rfl) (by kernel_rfl) (by intro _ _ _ h; exact h) (Or.inl ⟨by rfl, ?_⟩) ?_
            rotate_left 1
            · intro w' _
              go_simp
              all_goals with_reducible rfl
            simp only [Act.put, List.getElem_toArray, List.getElem_cons_zero, List.getElem_cons_succ, List.setIfInBounds_toArray, List.set_cons_zero, List.set_cons_succ]
            refine wpAnyK_take (i := 8) (oi := _) (v := ?_) (by rfl) (by kernel_rfl) (by intro _ _ _ h; exact h) hS (Or.inl ⟨by rfl, ?_⟩) ?_
            rotate_left 1
            · intro w' hl
              have hl1 := hl.1
              have hl2 := hl.2
              clear hl
              go_simp
              all_goals with_reducible rfl
            simp only [Act.put, List.getElem_toArray, List.getElem_cons_zero, List.getElem_cons_succ, List.setIfInBounds_toArray, List.set_cons_zero, List.set_cons_succ]
            refine wpAnyK_all (rs := [9, 13]) (by kernel_rfl) (by simp) ?_
            intro ix hix
            simp only [List.mem_cons, List.not_mem_nil, or_false] at hix
            rcases hix with rfl | rfl
            · as_aux_lemma =>
                refine wpK_op (o := _) (by rfl) (fun K hK => ?_)
                go_simp
                go_at_call 12
                refine (HADD.out (RB (.slice (some ax0) m cx) (.slice (some ay0) m cy)) Wd (fun b hb => Nat.lt_of_lt_of_le (HRB.out b hb) HBd.out.size) (HPL.out.on HBd.out)).mono ?_
                rintro e w9 ⟨A6, c6, rfl, hb9, hp9⟩
                rw [← HN6.out] at hp9 ⊢
                have HB9 : Hid (Below wr.heap.size wr w9) := Lib.hid (HBd.out.trans (hb9.mono HBd.out.size))
                have HP9 := Lib.hid hp9
                have hS9 : Two (ax0.add k) ⟨(ad'.add (j * 3)).block, (ad'.add (j * 3)).off + 1, none⟩ (.slice A4 n4 c4) (.int .i64 id) w9 := ⟨(hb9.cell (World.block_lt_of_cell? _ _ hS.1)).trans hS.1, (hb9.cell (World.block_lt_of_cell? _ _ hS.2)).trans hS.2⟩
                clear hb9 hp9
                refine hK _ _ (fun _ _ => hS9) ?_
                clear hK K
                try simp only [Act.put, List.getElem_toArray, List.getElem_cons_zero, List.getElem_cons_succ, List.setIfInBounds_toArray, List.set_cons_zero, List.set_cons_succ]
                refine wpAnyK_pure (i := 10) (oi := _) (v := ?_) (by rfl) (by kernel_rfl) (by intro _ _ _ h; exact h) (Or.inl ⟨by rfl, ?_⟩) ?_
                rotate_left 1
                · intro w' _
                  go_simp
                  all_goals with_reducible rfl
                simp only [Act.put, List.getElem_toArray, List.getElem_cons_zero, List.getElem_cons_succ, List.setIfInBounds_toArray, List.set_cons_zero, List.set_cons_succ]
                refine wpAnyK_pure (i := 11) (oi := _) (v := ?_) (by rfl) (by kernel_rfl) (by intro _ _ _ h; exact h) (Or.inl ⟨by rfl, ?_⟩) ?_
                rotate_left 1
                · intro w' _
                  go_simp
                  all_goals with_reducible rfl
                simp only [Act.put, List.getElem_toArray, List.getElem_cons_zero, List.getElem_cons_succ, List.setIfInBounds_toArray, List.set_cons_zero, List.set_cons_succ]
                refine wpAnyK_pure (i := 12) (oi := _) (v := ?_) (by rfl) (by kernel_rfl) (by intro _ _ _ h; exact h) (Or.inl ⟨by rfl, ?_⟩) ?_
                rotate_left 1
                · intro w' _
                  go_simp
                  all_goals with_reducible rfl
                simp only [Act.put, List.getElem_toArray, List.getElem_cons_zero, List.getElem_cons_succ, List.setIfInBounds_toArray, List.set_cons_zero, List.set_cons_succ]
                refine wpAnyK_all (rs := [13]) (by kernel_rfl) (by simp) ?_
                intro ix hix
                simp only [List.mem_cons, List.not_mem_nil, or_false] at hix
                subst hix
                refine wpK_op (o := _) (by rfl) (fun K hK => ?_)
                go_simp
                refine hK _ _ (fun _ _ => ⟨((below_alloc w9 _).cell (World.block_lt_of_cell? _ _ hS9.1)).trans hS9.1, ((below_alloc w9 _).cell (World.block_lt_of_cell? _ _ hS9.2)).trans hS9.2⟩) ?_
                clear hK K
                try simp only [Act.put, List.getElem_toArray, List.getElem_cons_zero, List.getElem_cons_succ, List.setIfInBounds_toArray, List.set_cons_zero, List.set_cons_succ]
                clear hS9
                refine wpAnyK_all (rs := [14]) (by kernel_rfl) (by simp) ?_
                intro ix hix
                simp only [List.mem_cons, List.not_mem_nil, or_false] at hix
                subst hix
                refine wpK_op (o := _) (by rfl) (fun K hK => ?_)
                go_simp
                refine hK _ _ (fun h => absurd h (by omega)) ?_
                clear hK K
                try simp only [Act.put, List.getElem_toArray, List.getElem_cons_zero, List.getElem_cons_succ, List.setIfInBounds_toArray, List.set_cons_zero, List.set_cons_succ]
                refine wpAnyK_all (rs := [15]) (by kernel_rfl) (by simp) ?_
                intro ix hix
                simp only [List.mem_cons, List.not_mem_nil, or_false] at hix
                subst hix
                refine wpK_op (o := _) (by rfl) (fun K hK => ?_)
                go_simp
                refine hK _ _ (fun h => absurd h (by omega)) ?_
                clear hK K
                try simp only [Act.put, List.getElem_toArray, List.getElem_cons_zero, List.getElem_cons_succ, List.setIfInBounds_toArray, List.set_cons_zero, List.set_cons_succ]
                obtain ⟨b, hb⟩ : ∃ b, b = w9.heap.size := ⟨_, rfl⟩
                rw [← hb]
                obtain ⟨W6, hW6⟩ : ∃ W6 : World, W6 = w9.alloc (Obj.cells #[Value.slice A6 n6 c6] 24) := ⟨_, rfl⟩
                have HBX : Hid (Box (RB (.slice (some ax0) m cx) (.slice (some ay0) m cy)) wr W6 b A6 n6 c6 L6) := Lib.hid (by rw [hW6]; exact Box.late HB9.out HP9.out hb)
                clear HB9 HP9 hb
                refine wpAnyK_done (by kernel_rfl) ?_ _
                rw [← hW6]
                clear hW6 hS
                have gb := HBX.out.cell
                have ge := HBX.out.ge
                have q1 : W6.cell? (ay0.add k) = some (.slice A5 n5 c5) := (HBX.out.bel.cell (World.block_lt_of_cell? _ _ gy)).trans gy
                have q2 : W6.cell? ⟨(ad'.add (j * 3)).block, (ad'.add (j * 3)).off + 1, none⟩ = some (.int .i64 id) := (HBX.out.bel.cell (World.block_lt_of_cell? _ _ f1)).trans f1
                have HGY := Lib.hid gy
                have HF1 := Lib.hid f1
                clear gx gy f1
                go_upto_region 16 with (fail)
                go_region_held3 (fun W' => W'.cell? (ay0.add k) = some (.slice A5 n5 c5) ∧ W'.cell? ⟨(ad'.add (j * 3)).block, (ad'.add (j * 3)).off + 1, none⟩ = some (.int .i64 id)) (first | (go_keep; done) | exact ⟨q1, q2⟩) (first
                  | (go_at_call 25; refine (HREF.out _ ((HOO.out.lk (by rw [maps_len HOM.out, HN5.out])).on (by first | exact HBX.out.bel | exact (HBX.out.on (below_drew _)).bel))).mono ?_
                     rintro e w11 ⟨A7, c7, own7, rfl, hb11, ho11, hm11⟩
                     rw [← HN6.out] at ho11 ⊢
                     have HO7 := Lib.hid (ho11.lower (show w.heap.size ≤ _ from Nat.le_trans HPV.out.bel.size (by first | exact HBX.out.bel.size | exact (HBX.out.on (below_drew _)).bel.size)))
                     have HM7 := Lib.hid hm11
                     have HBX := Lib.hid (show Box (RB (.slice (some ax0) m cx) (.slice (some ay0) m cy)) wr w11 b A6 n6 c6 L6 from by first | exact HBX.out.on hb11 | exact (HBX.out.on (below_drew _)).on hb11)
                     have gb := HBX.out.cell
                     have q1 : w11.cell? (ay0.add k) = some (.slice A5 n5 c5) := (HBX.out.bel.cell (World.block_lt_of_cell? _ _ HGY.out)).trans HGY.out
                     have q2 : w11.cell? ⟨(ad'.add (j * 3)).block, (ad'.add (j * 3)).off + 1, none⟩ = some (.int .i64 id) := (HBX.out.bel.cell (World.block_lt_of_cell? _ _ HF1.out)).trans HF1.out
                     clear hb11 ho11 hm11)
                  | fail)
                clear q1 q2
                go_upto_region 19 with (fail)
                have HV15 := Lib.hid (HPV.out.on HBX.out.bel)
                obtain ⟨m2, hm2⟩ : ∃ m2, m2 = m + 1 := ⟨_, rfl⟩
                have HM2 := Lib.hid hm2
                obtain ⟨i24, h24, z24a, z24b, z24c⟩ := info_parts info24
                obtain ⟨i53, h53, z53a, z53b, z53c⟩ := info_parts info53
                clear hm2
                have hm61 : m ≤ 61 := by omega
                go_upto_region 26 with (first
                  | (refine wpList_append_mid rfl (.tmp 127) (.tmp 129) 57 rfl w.heap.size 24 i24 _ 1 24 Try.underlying57 h24 z24a z24b z24c rfl (by omega) (.slice (some ax0) m cx) m (X.map Ar.v) rfl (HV15.out.rx.alloc_ _) ⟨_, 0, none⟩ 1 1 [.slice A6 n6 c6] rfl rfl (World.news_of_block (cs := #[.slice A6 n6 c6]) (t := 24) (fr := (0, 0)) (heap_alloc_new _ _)) (by simp [Value.oneCell']) (by unfold maxLen; omega) (by omega) (by have := HV15.out.bel.size; simp; omega) ?_
                     intro VX2 w19 hmx hrx
                     have HMX := Lib.hid hmx
                     have HRX := Lib.hid hrx
                     clear hmx hrx)
                  | (refine wpList_append_mid rfl (.tmp 131) (.tmp 133) 58 rfl w.heap.size 53 i53 _ 1 24 Try.underlying58 h53 z53a z53b z53c rfl (by omega) (.slice (some ay0) m cy) m (Y.map Ar.v) rfl (HV15.out.ry2 _ HRX.out _) ⟨_, 0, none⟩ 1 1 [.slice A7 n6 c7] rfl rfl (World.news_of_block (cs := #[.slice A7 n6 c7]) (t := 53) (fr := (0, 0)) (heap_alloc_new _ _)) (by simp [Value.oneCell']) (by unfold maxLen; omega) (by omega) (HV15.out.sz _ HRX.out _) ?_
                     intro VY2 w20 hmy hry
                     have HPV2 : Hid (Pv w w20 VX2 VY2 m2 (100 + j + 1) _ _ _) := Lib.hid (by rw [HM2.out]; exact HV15.out.push HMX.out HRX.out hmy hry HR6.out HF6.out (by omega) HBX.out.pl HO7.out HM7.out HN6.out HN6.out)
                     clear hmy hry HMX HRX)
                  | fail)
                have hm2 : m2 = m + 1 := HM2.out
                have f1 : w20.cell? ⟨(ad'.add (j * 3)).block, (ad'.add (j * 3)).off + 1, none⟩ = some (.int .i64 id) := by
                  have h0 := HPV.out.bel.size
                  have e2 : (⟨(ad'.add (j * 3)).block, (ad'.add (j * 3)).off + 1, none⟩ : Addr) = (ad'.add (j * 3)).add 1 := rfl
                  rw [e2, add_of_add]
                  exact (HPV2.out.bel.cell (p := ad'.add (j * 3 + 1)) (by rw [block_of_add]; exact hbl')).trans (HK1.out)
                obtain ⟨ax, cx, ex⟩ := HPV2.out.rx.form
                obtain ⟨ay, cy, ey⟩ := HPV2.out.ry.form
                subst ex ey
                obtain ⟨ax1, cx1, ay1, cy1, A4, n4, c4, A5, n5, c5, own5, ex, ey, -⟩ := HPV2.out.cell (j := k) (by omega)
                cases ex
                cases ey
                clear gb HADD HREF
                have hkm2 : k < m2 := by omega
                have hm21 : 1 ≤ m2 := by omega
                have hm2j : m2 ≤ 2 + j := by omega
                clear hm2
                obtain ⟨Ls2, hLs2⟩ : ∃ Ls2, Ls2 = Ls ++ [L6] := ⟨_, rfl⟩
                rw [← hLs2] at HPV2
                clear hLs2 HBX HV15 HO7 HM7 HGY HF1
                obtain ⟨wt, hwt⟩ : ∃ wt : World, wt = w20 := ⟨_, rfl⟩
                obtain ⟨p, hp⟩ : ∃ p, p = m2 - 1 := ⟨_, rfl⟩
                have hmp : (m2 : Int) - 1 = p := by omega
                have hpm : p < m2 := by omega
                have p00 : (0 : Int) ≤ p := by omega
                obtain ⟨ax9, cx9, ay9, cy9, A4, n4, c4, A5, n5, c5, own5, ex, ey, gx, gy, hRL, hfl, hpl, hoo, hom, hn5, hn4⟩ := HPV2.out.cell (j := k) (by omega)
                cases ex
                cases ey
                obtain ⟨ax9, cx9, ay9, cy9, A8, n8, c8, A9, n9, c9, own9, ex, ey, lx, ly, hRL9, hfl9, hpl9, hoo9, hom9, hn9, hn8⟩ := HPV2.out.cell hpm
                cases ex
                cases ey
                have hll := len_flat hRL
                have hll9 := len_flat hRL9
                obtain ⟨L, hL⟩ : ∃ L, L = Ls2.getD k [] := ⟨_, rfl⟩
                obtain ⟨Lz, hLz⟩ : ∃ Lz, Lz = Ls2.getD p [] := ⟨_, rfl⟩
                rw [← hL] at hRL hfl hpl hom hn5 hn4 hll
                rw [← hLz] at hRL9 hfl9 hpl9 hom9 hn9 hn8 hll9
                have HRL := Lib.hid hRL
                have HPL := Lib.hid hpl
                have HOO := Lib.hid hoo
                have HOM := Lib.hid hom
                have hn59 : n5 ≤ 200 := by omega
                have hn49 : n4 ≤ 200 := by omega
                have HN5 := Lib.hid hn5
                have HRLz := Lib.hid hRL9
                have HPLz := Lib.hid hpl9
                have HOOz := Lib.hid hoo9
                have HOMz := Lib.hid hom9
                have hn99 : n9 ≤ 200 := by omega
                have hn89 : n8 ≤ 200 := by omega
                have HN9 := Lib.hid hn9
                have hfl2 : L.flatten.length ≤ 200 := by omega
                have h14 : (m2 : Int) ≤ 61 := by omega
                clear hL hRL hpl hoo hom hn5 hn4 hll hfl hLz hRL9 hpl9 hoo9 hom9 hn9 hn8 hll9 hfl9 hp
                obtain ⟨nf, hnf⟩ : ∃ nf, nf = L.flatten.length := ⟨_, rfl⟩
                have HNF := Lib.hid hnf
                rw [← hnf] at hfl2
                obtain ⟨hb, hhb⟩ : ∃ hb, hasB id L.flatten = hb := ⟨_, rfl⟩
                have HHB := Lib.hid hhb
                obtain ⟨so, hso⟩ : ∃ so, fndI id L.flatten = so := ⟨_, rfl⟩
                have HSO := Lib.hid hso
                clear hnf hhb hso
                have hcB : ∀ W', Below wt.heap.size wt W' → W'.cell? (ax1.add k) = some (.slice A4 n4 c4) ∧ W'.cell? (ay1.add k) = some (.slice A5 n5 c5) ∧ W'.cell? ⟨(ad'.add (j * 3)).block, (ad'.add (j * 3)).off + 1, none⟩ = some (.int .i64 id) ∧ W'.cell? (ax1.add p) = some (.slice A8 n8 c8) ∧ W'.cell? (ay1.add p) = some (.slice A9 n9 c9) := fun W' hb => by
                  rw [hwt] at hb
                  exact ⟨(hb.cell (World.block_lt_of_cell? _ _ gx)).trans gx, (hb.cell (World.block_lt_of_cell? _ _ gy)).trans gy, (hb.cell (World.block_lt_of_cell? _ _ f1)).trans f1, (hb.cell (World.block_lt_of_cell? _ _ lx)).trans lx, (hb.cell (World.block_lt_of_cell? _ _ ly)).trans ly⟩
                have HCB := Lib.hid hcB
                have HPVt := Lib.hid HPV2.out
                rw [hwt] at HCB
                rw [← hwt] at HPVt HPL HOO HPLz HOOz
                rw [← hwt] at HCB
                clear hcB gx lx ly f1
                rw [← hwt] at gy ⊢
                clear hwt HPV2
                go_upto_region 27 with (first
                  | (go_at_call 27; refine (refIds_any A5 n5 c5 L own5 _ (HOO.out.lk (by rw [maps_len HOM.out, HN5.out])) HOM.out HRL.out (by omega)).mono ?_; rintro e w10 ⟨A7, c7, rfl, hb10, hm10⟩
                     rw [← HNF.out] at hm10 ⊢
                     have HI10 := Lib.hid hm10
                     have HBz : Hid (Below wt.heap.size wt w10) := Lib.hid hb10
                     clear hb10 hm10)
                  | fail)
                clear gy
                obtain ⟨px, py, pf, lx, ly⟩ := HCB.out _ HBz.out
                go_region_held3 (fun W' => W'.cell? (ax1.add k) = some (.slice A4 n4 c4) ∧ W'.cell? (ay1.add k) = some (.slice A5 n5 c5) ∧ W'.cell? ⟨(ad'.add (j * 3)).block, (ad'.add (j * 3)).off + 1, none⟩ = some (.int .i64 id)) (first | (go_keep; done) | exact ⟨px, py, pf⟩) (first
                  | (go_at_call 20; refine (seek_any A4 n4 c4 L id _ ((HPL.out.on (by first | exact HBz.out | exact HBz.out.trans ((below_drew _).mono HBz.out.size))).pl) HRL.out (by omega)).mono ?_; rw [HSO.out]; rintro e w11 ⟨rfl, hb11⟩
                     have HIx : Hid (Below w10.heap.size w10 w11) := Lib.hid (by first | exact hb11 | exact (below_drew w10).trans (hb11.mono (Nat.le_refl _)))
                     have HBz := Lib.hid (show Below wt.heap.size wt w11 from by first | exact HBz.out.trans (hb11.mono HBz.out.size) | exact (HBz.out.trans ((below_drew _).mono HBz.out.size)).trans (hb11.mono (HBz.out.trans ((below_drew _).mono HBz.out.size)).size))
                     obtain ⟨px, py, pf, lx, ly⟩ := HCB.out w11 HBz.out
                     clear hb11))
                go_upto_region 28 with (fail)
                go_region_held3 (fun W' => W'.cell? (ax1.add k) = some (.slice A4 n4 c4) ∧ W'.cell? (ay1.add k) = some (.slice A5 n5 c5) ∧ W'.cell? ⟨(ad'.add (j * 3)).block, (ad'.add (j * 3)).off + 1, none⟩ = some (.int .i64 id)) (first | (go_keep; done) | exact ⟨px, py, pf⟩) (first
                  | (go_at_call 28; refine (refSeek_any A5 n5 c5 L own5 id _ ((HOO.out.lk (by rw [maps_len HOM.out, HN5.out])).on (by first | exact HBz.out | exact HBz.out.trans ((below_drew _).mono HBz.out.size))) HOM.out HRL.out (by omega)).mono ?_; rw [HSO.out]; rintro e w12 ⟨rfl, hb12⟩
                     have HIy : Hid (Below w10.heap.size w10 w12) := Lib.hid (HIx.out.trans (Below.mono (show Below w11.heap.size w11 w12 from by first | exact hb12 | exact (below_drew w11).trans (hb12.mono (Nat.le_refl _))) HIx.out.size))
                     have HBz := Lib.hid (show Below wt.heap.size wt w12 from by first | exact HBz.out.trans (hb12.mono HBz.out.size) | exact (HBz.out.trans ((below_drew _).mono HBz.out.size)).trans (hb12.mono (HBz.out.trans ((below_drew _).mono HBz.out.size)).size))
                     obtain ⟨px, py, pf, lx, ly⟩ := HCB.out w12 HBz.out
                     clear hb12))
                as_aux_lemma =>
                  go_upto_region 29 with (fail)
                  have HII := Lib.hid (HI10.out.onb HIy.out)
                  clear HIx HIy HI10
                  generalize (so.getD 0 : Nat) = sv
                  generalize so.isSome = sb
                  simp only [List.append_eq, List.cons_append, List.nil_append]
                  refine reg29 hl1 (show k < m2 by omega) hpm hmp (by omega) hn49 hn59 hn89 hn99 hfl2 ⟨px, py, pf, lx, ly⟩ (HPL.out.on HBz.out) HRL.out (HOO.out.onb HBz.out) HOM.out HN5.out (HPLz.out.on HBz.out) HRLz.out (HOOz.out.onb HBz.out) HOMz.out HN9.out HII.out HNF.out ?_
                  intro v205 v206 v207 v208 v209 v210 v211 v212 v213 v214 v215 v216 v217 v218 v219 v220 v221 v222 v223 v224 v225 v226 v227 v228 v229 v230 v231 v232 v233 v234 v235 v236 v237 v238 v239 v240 v241 v242 v243 v244 v245 v246 v247 v248 v249 v250 v251 v252 v253 v254 v255 v256 v257 v258 v259 v260 v261 v262 v263 v264 v265 v266 v267 v268 v269 v270 v271 v272 v273 v274 v275 v276 v277 v278 v279 w18 hb18
                  have HBz := Lib.hid (HBz.out.trans (hb18.mono HBz.out.size))
                  clear hb18
                  all_goals
                    go_wp2
                    go_roundw
                    case rel => exact ⟨j + 1, m2, _, _, by go_num, by omega, by omega, rfl, rfl, by omega, by omega, Lib.hid ⟨_, _, _, (HPVt.out.on HBz.out).more (by omega)⟩⟩
                    case measure => simp only [intOf]; omega
            · as_aux_lemma =>
                refine wpK_op (o := _) (by rfl) (fun K hK => ?_)
                go_simp
                refine hK _ _ (fun _ _ => ⟨((below_alloc Wd _).cell (World.block_lt_of_cell? _ _ hS.1)).trans hS.1, ((below_alloc Wd _).cell (World.block_lt_of_cell? _ _ hS.2)).trans hS.2⟩) ?_
                clear hK K
                try simp only [Act.put, List.getElem_toArray, List.getElem_cons_zero, List.getElem_cons_succ, List.setIfInBounds_toArray, List.set_cons_zero, List.set_cons_succ]
                obtain ⟨b, hb⟩ : ∃ b, b = Wd.heap.size := ⟨_, rfl⟩
                rw [← hb]
                obtain ⟨We, hWe⟩ : ∃ We : World, We = Wd.alloc (Obj.cells #[Value.slice none 0 0] 24) := ⟨_, rfl⟩
                have HWe := Lib.hid hWe
                have HEB : Hid (b = Wd.heap.size) := Lib.hid hb
                have HBe : Hid (Below Wd.heap.size Wd We) := Lib.hid (by rw [hWe]; exact below_alloc Wd _)
                have HZe : Hid (b < We.heap.size) := Lib.hid (by rw [hWe, hb]; simp)
                have hSe : Two (ax0.add k) ⟨(ad'.add (j * 3)).block, (ad'.add (j * 3)).off + 1, none⟩ (.slice A4 n4 c4) (.int .i64 id) We := ⟨(HBe.out.cell (World.block_lt_of_cell? _ _ hS.1)).trans hS.1, (HBe.out.cell (World.block_lt_of_cell? _ _ hS.2)).trans hS.2⟩
                rw [← hWe]
                clear hWe hb
                refine wpAnyK_all (rs := [9]) (by kernel_rfl) (by simp) ?_
                intro ix hix
                simp only [List.mem_cons, List.not_mem_nil, or_false] at hix
                subst hix
                refine wpK_op (o := _) (by rfl) (fun K hK => ?_)
                go_simp
                go_at_call 12
                refine (HADD.out (fun x => RB (.slice (some ax0) m cx) (.slice (some ay0) m cy) x ∨ x = b) We (fun x hx => by rcases hx with hx | hx; exact Nat.lt_of_lt_of_le (HRB.out x hx) (Nat.le_trans HBd.out.size HBe.out.size); exact hx ▸ HZe.out) (((HPL.out.fresh (fun x hx => by rcases hx with hx | hx; exact .inl hx; exact .inr (by have := HBd.out.size; have := HEB.out; omega))).on HBd.out).on HBe.out)).mono ?_
                rintro e w9 ⟨A6, c6, rfl, hb9, hp9⟩
                rw [← HN6.out] at hp9 ⊢
                have HB9 := Lib.hid hb9
                have HP9 := Lib.hid hp9
                have hS9 : Two (ax0.add k) ⟨(ad'.add (j * 3)).block, (ad'.add (j * 3)).off + 1, none⟩ (.slice A4 n4 c4) (.int .i64 id) w9 := ⟨(hb9.cell (World.block_lt_of_cell? _ _ hSe.1)).trans hSe.1, (hb9.cell (World.block_lt_of_cell? _ _ hSe.2)).trans hSe.2⟩
                have hcb : w9.cell? ⟨b, 0, none⟩ = some (.slice none 0 0) := (hb9.cell HZe.out).trans (by rw [HWe.out, HEB.out, cell_of (heap_alloc_new Wd _) 0]; rfl)
                have hfb : w9.frozen? ⟨b, 0, none⟩ = false := by
                  have h0 : We.heap[b]? = some (.cells #[Value.slice none 0 0] 24 (0, 0)) := by rw [HWe.out, HEB.out]; exact heap_alloc_new Wd _
                  exact frozen_of ((hb9.block _ HZe.out).trans h0) 0
                clear hb9 hp9
                refine hK _ _ (fun _ _ => hS9) ?_
                clear hK K
                try simp only [Act.put, List.getElem_toArray, List.getElem_cons_zero, List.getElem_cons_succ, List.setIfInBounds_toArray, List.set_cons_zero, List.set_cons_succ]
                refine wpAnyK_pure (i := 10) (oi := _) (v := ?_) (by rfl) (by kernel_rfl) (by intro _ _ _ h; exact h) (Or.inl ⟨by rfl, ?_⟩) ?_
                rotate_left 1
                · intro w' _
                  go_simp
                  all_goals with_reducible rfl
                simp only [Act.put, List.getElem_toArray, List.getElem_cons_zero, List.getElem_cons_succ, List.setIfInBounds_toArray, List.set_cons_zero, List.set_cons_succ]
                refine wpAnyK_pure (i := 11) (oi := _) (v := ?_) (by rfl) (by kernel_rfl) (by intro _ _ _ h; exact h) (Or.inl ⟨by rfl, ?_⟩) ?_
                rotate_left 1
                · intro w' _
                  go_simp
                  all_goals with_reducible rfl
                simp only [Act.put, List.getElem_toArray, List.getElem_cons_zero, List.getElem_cons_succ, List.setIfInBounds_toArray, List.set_cons_zero, List.set_cons_succ]
                refine wpAnyK_pure (i := 12) (oi := _) (v := ?_) (by rfl) (by kernel_rfl) (by intro _ _ _ h; exact h) (Or.inl ⟨by rfl, ?_⟩) ?_
                rotate_left 1
                · intro w' _
                  go_simp
                  all_goals with_reducible rfl
                simp only [Act.put, List.getElem_toArray, List.getElem_cons_zero, List.getElem_cons_succ, List.setIfInBounds_toArray, List.set_cons_zero, List.set_cons_succ]
                refine wpAnyK_all (rs := [14]) (by kernel_rfl) (by simp) ?_
                intro ix hix
                simp only [List.mem_cons, List.not_mem_nil, or_false] at hix
                subst hix
                refine wpK_op (o := _) (by rfl) (fun K hK => ?_)
                go_simp
                refine hK _ _ (fun h => absurd h (by omega)) ?_
                clear hK K
                try simp only [Act.put, List.getElem_toArray, List.getElem_cons_zero, List.getElem_cons_succ, List.setIfInBounds_toArray, List.set_cons_zero, List.set_cons_succ]
                refine wpAnyK_all (rs := [15]) (by kernel_rfl) (by simp) ?_
                intro ix hix
                simp only [List.mem_cons, List.not_mem_nil, or_false] at hix
                subst hix
                refine wpK_op (o := _) (by rfl) (fun K hK => ?_)
                go_simp
                refine hK _ _ (fun h => absurd h (by omega)) ?_
                clear hK K
                try simp only [Act.put, List.getElem_toArray, List.getElem_cons_zero, List.getElem_cons_succ, List.setIfInBounds_toArray, List.set_cons_zero, List.set_cons_succ]
                clear hcb hfb hS9
                obtain ⟨W6, hW6⟩ : ∃ W6 : World, W6 = w9.setCell ⟨b, 0, none⟩ (.slice A6 n6 c6) := ⟨_, rfl⟩
                have HBX : Hid (Box (RB (.slice (some ax0) m cx) (.slice (some ay0) m cy)) wr W6 b A6 n6 c6 L6) := Lib.hid (by rw [hW6]; exact Box.early HBd.out _ HEB.out (HWe.out ▸ HB9.out) HP9.out)
                clear HB9 HP9 HBe hSe HZe HWe HEB
                refine wpAnyK_done (by kernel_rfl) ?_ _
                rw [← hW6]
                clear hW6 hS
                have gb := HBX.out.cell
                have ge := HBX.out.ge
                have q1 : W6.cell? (ay0.add k) = some (.slice A5 n5 c5) := (HBX.out.bel.cell (World.block_lt_of_cell? _ _ gy)).trans gy
                have q2 : W6.cell? ⟨(ad'.add (j * 3)).block, (ad'.add (j * 3)).off + 1, none⟩ = some (.int .i64 id) := (HBX.out.bel.cell (World.block_lt_of_cell? _ _ f1)).trans f1
                have HGY := Lib.hid gy
                have HF1 := Lib.hid f1
                clear gx gy f1
                go_upto_region 16 with (fail)
                go_region_held3 (fun W' => W'.cell? (ay0.add k) = some (.slice A5 n5 c5) ∧ W'.cell? ⟨(ad'.add (j * 3)).block, (ad'.add (j * 3)).off + 1, none⟩ = some (.int .i64 id)) (first | (go_keep; done) | exact ⟨q1, q2⟩) (first
                  | (go_at_call 25; refine (HREF.out _ ((HOO.out.lk (by rw [maps_len HOM.out, HN5.out])).on (by first | exact HBX.out.bel | exact (HBX.out.on (below_drew _)).bel))).mono ?_
                     rintro e w11 ⟨A7, c7, own7, rfl, hb11, ho11, hm11⟩
                     rw [← HN6.out] at ho11 ⊢
                     have HO7 := Lib.hid (ho11.lower (show w.heap.size ≤ _ from Nat.le_trans HPV.out.bel.size (by first | exact HBX.out.bel.size | exact (HBX.out.on (below_drew _)).bel.size)))
                     have HM7 := Lib.hid hm11
                     have HBX := Lib.hid (show Box (RB (.slice (some ax0) m cx) (.slice (some ay0) m cy)) wr w11 b A6 n6 c6 L6 from by first | exact HBX.out.on hb11 | exact (HBX.out.on (below_drew _)).on hb11)
                     have gb := HBX.out.cell
                     have q1 : w11.cell? (ay0.add k) = some (.slice A5 n5 c5) := (HBX.out.bel.cell (World.block_lt_of_cell? _ _ HGY.out)).trans HGY.out
                     have q2 : w11.cell? ⟨(ad'.add (j * 3)).block, (ad'.add (j * 3)).off + 1, none⟩ = some (.int .i64 id) := (HBX.out.bel.cell (World.block_lt_of_cell? _ _ HF1.out)).trans HF1.out
                     clear hb11 ho11 hm11)
                  | fail)
                clear q1 q2
                go_upto_region 19 with (fail)
                have HV15 := Lib.hid (HPV.out.on HBX.out.bel)
                obtain ⟨m2, hm2⟩ : ∃ m2, m2 = m + 1 := ⟨_, rfl⟩
                have HM2 := Lib.hid hm2
                obtain ⟨i24, h24, z24a, z24b, z24c⟩ := info_parts info24
                obtain ⟨i53, h53, z53a, z53b, z53c⟩ := info_parts info53
                clear hm2
                have hm61 : m ≤ 61 := by omega
                go_upto_region 26 with (first
                  | (refine wpList_append_mid rfl (.tmp 127) (.tmp 129) 57 rfl w.heap.size 24 i24 _ 1 24 Try.underlying57 h24 z24a z24b z24c rfl (by omega) (.slice (some ax0) m cx) m (X.map Ar.v) rfl (HV15.out.rx.alloc_ _) ⟨_, 0, none⟩ 1 1 [.slice A6 n6 c6] rfl rfl (World.news_of_block (cs := #[.slice A6 n6 c6]) (t := 24) (fr := (0, 0)) (heap_alloc_new _ _)) (by simp [Value.oneCell']) (by unfold maxLen; omega) (by omega) (by have := HV15.out.bel.size; simp; omega) ?_
                     intro VX2 w19 hmx hrx
                     have HMX := Lib.hid hmx
                     have HRX := Lib.hid hrx
                     clear hmx hrx)
                  | (refine wpList_append_mid rfl (.tmp 131) (.tmp 133) 58 rfl w.heap.size 53 i53 _ 1 24 Try.underlying58 h53 z53a z53b z53c rfl (by omega) (.slice (some ay0) m cy) m (Y.map Ar.v) rfl (HV15.out.ry2 _ HRX.out _) ⟨_, 0, none⟩ 1 1 [.slice A7 n6 c7] rfl rfl (World.news_of_block (cs := #[.slice A7 n6 c7]) (t := 53) (fr := (0, 0)) (heap_alloc_new _ _)) (by simp [Value.oneCell']) (by unfold maxLen; omega) (by omega) (HV15.out.sz _ HRX.out _) ?_
                     intro VY2 w20 hmy hry
                     have HPV2 : Hid (Pv w w20 VX2 VY2 m2 (100 + j + 1) _ _ _) := Lib.hid (by rw [HM2.out]; exact HV15.out.push HMX.out HRX.out hmy hry HR6.out HF6.out (by omega) HBX.out.pl HO7.out HM7.out HN6.out HN6.out)
                     clear hmy hry HMX HRX)
                  | fail)
                have hm2 : m2 = m + 1 := HM2.out
                have f1 : w20.cell? ⟨(ad'.add (j * 3)).block, (ad'.add (j * 3)).off + 1, none⟩ = some (.int .i64 id) := by
                  have h0 := HPV.out.bel.size
                  have e2 : (⟨(ad'.add (j * 3)).block, (ad'.add (j * 3)).off + 1, none⟩ : Addr) = (ad'.add (j * 3)).add 1 := rfl
                  rw [e2, add_of_add]
                  exact (HPV2.out.bel.cell (p := ad'.add (j * 3 + 1)) (by rw [block_of_add]; exact hbl')).trans (HK1.out)
                obtain ⟨ax, cx, ex⟩ := HPV2.out.rx.form
                obtain ⟨ay, cy, ey⟩ := HPV2.out.ry.form
                subst ex ey
                obtain ⟨ax1, cx1, ay1, cy1, A4, n4, c4, A5, n5, c5, own5, ex, ey, -⟩ := HPV2.out.cell (j := k) (by omega)
                cases ex
                cases ey
                clear gb HADD HREF
                have hkm2 : k < m2 := by omega
                have hm21 : 1 ≤ m2 := by omega
                have hm2j : m2 ≤ 2 + j := by omega
                clear hm2
                obtain ⟨Ls2, hLs2⟩ : ∃ Ls2, Ls2 = Ls ++ [L6] := ⟨_, rfl⟩
                rw [← hLs2] at HPV2
                clear hLs2 HBX HV15 HO7 HM7 HGY HF1
                obtain ⟨wt, hwt⟩ : ∃ wt : World, wt = w20 := ⟨_, rfl⟩
                obtain ⟨p, hp⟩ : ∃ p, p = m2 - 1 := ⟨_, rfl⟩
                have hmp : (m2 : Int) - 1 = p := by omega
                have hpm : p < m2 := by omega
                have p00 : (0 : Int) ≤ p := by omega
                obtain ⟨ax9, cx9, ay9, cy9, A4, n4, c4, A5, n5, c5, own5, ex, ey, gx, gy, hRL, hfl, hpl, hoo, hom, hn5, hn4⟩ := HPV2.out.cell (j := k) (by omega)
                cases ex
                cases ey
                obtain ⟨ax9, cx9, ay9, cy9, A8, n8, c8, A9, n9, c9, own9, ex, ey, lx, ly, hRL9, hfl9, hpl9, hoo9, hom9, hn9, hn8⟩ := HPV2.out.cell hpm
                cases ex
                cases ey
                have hll := len_flat hRL
                have hll9 := len_flat hRL9
                obtain ⟨L, hL⟩ : ∃ L, L = Ls2.getD k [] := ⟨_, rfl⟩
                obtain ⟨Lz, hLz⟩ : ∃ Lz, Lz = Ls2.getD p [] := ⟨_, rfl⟩
                rw [← hL] at hRL hfl hpl hom hn5 hn4 hll
                rw [← hLz] at hRL9 hfl9 hpl9 hom9 hn9 hn8 hll9
                have HRL := Lib.hid hRL
                have HPL := Lib.hid hpl
                have HOO := Lib.hid hoo
                have HOM := Lib.hid hom
                have hn59 : n5 ≤ 200 := by omega
                have hn49 : n4 ≤ 200 := by omega
                have HN5 := Lib.hid hn5
                have HRLz := Lib.hid hRL9
                have HPLz := Lib.hid hpl9
                have HOOz := Lib.hid hoo9
                have HOMz := Lib.hid hom9
                have hn99 : n9 ≤ 200 := by omega
                have hn89 : n8 ≤ 200 := by omega
                have HN9 := Lib.hid hn9
                have hfl2 : L.flatten.length ≤ 200 := by omega
                have h14 : (m2 : Int) ≤ 61 := by omega
                clear hL hRL hpl hoo hom hn5 hn4 hll hfl hLz hRL9 hpl9 hoo9 hom9 hn9 hn8 hll9 hfl9 hp
                obtain ⟨nf, hnf⟩ : ∃ nf, nf = L.flatten.length := ⟨_, rfl⟩
                have HNF := Lib.hid hnf
                rw [← hnf] at hfl2
                obtain ⟨hb, hhb⟩ : ∃ hb, hasB id L.flatten = hb := ⟨_, rfl⟩
                have HHB := Lib.hid hhb
                obtain ⟨so, hso⟩ : ∃ so, fndI id L.flatten = so := ⟨_, rfl⟩
                have HSO := Lib.hid hso
                clear hnf hhb hso
                have hcB : ∀ W', Below wt.heap.size wt W' → W'.cell? (ax1.add k) = some (.slice A4 n4 c4) ∧ W'.cell? (ay1.add k) = some (.slice A5 n5 c5) ∧ W'.cell? ⟨(ad'.add (j * 3)).block, (ad'.add (j * 3)).off + 1, none⟩ = some (.int .i64 id) ∧ W'.cell? (ax1.add p) = some (.slice A8 n8 c8) ∧ W'.cell? (ay1.add p) = some (.slice A9 n9 c9) := fun W' hb => by
                  rw [hwt] at hb
                  exact ⟨(hb.cell (World.block_lt_of_cell? _ _ gx)).trans gx, (hb.cell (World.block_lt_of_cell? _ _ gy)).trans gy, (hb.cell (World.block_lt_of_cell? _ _ f1)).trans f1, (hb.cell (World.block_lt_of_cell? _ _ lx)).trans lx, (hb.cell (World.block_lt_of_cell? _ _ ly)).trans ly⟩
                have HCB := Lib.hid hcB
                have HPVt := Lib.hid HPV2.out
                rw [hwt] at HCB
                rw [← hwt] at HPVt HPL HOO HPLz HOOz
                rw [← hwt] at HCB
                clear hcB gx lx ly f1
                rw [← hwt] at gy ⊢
                clear hwt HPV2
                go_upto_region 27 with (first
                  | (go_at_call 27; refine (refIds_any A5 n5 c5 L own5 _ (HOO.out.lk (by rw [maps_len HOM.out, HN5.out])) HOM.out HRL.out (by omega)).mono ?_; rintro e w10 ⟨A7, c7, rfl, hb10, hm10⟩
                     rw [← HNF.out] at hm10 ⊢
                     have HI10 := Lib.hid hm10
                     have HBz : Hid (Below wt.heap.size wt w10) := Lib.hid hb10
                     clear hb10 hm10)
                  | fail)
                clear gy
                obtain ⟨px, py, pf, lx, ly⟩ := HCB.out _ HBz.out
                go_region_held3 (fun W' => W'.cell? (ax1.add k) = some (.slice A4 n4 c4) ∧ W'.cell? (ay1.add k) = some (.slice A5 n5 c5) ∧ W'.cell? ⟨(ad'.add (j * 3)).block, (ad'.add (j * 3)).off + 1, none⟩ = some (.int .i64 id)) (first | (go_keep; done) | exact ⟨px, py, pf⟩) (first
                  | (go_at_call 20; refine (seek_any A4 n4 c4 L id _ ((HPL.out.on (by first | exact HBz.out | exact HBz.out.trans ((below_drew _).mono HBz.out.size))).pl) HRL.out (by omega)).mono ?_; rw [HSO.out]; rintro e w11 ⟨rfl, hb11⟩
                     have HIx : Hid (Below w10.heap.size w10 w11) := Lib.hid (by first | exact hb11 | exact (below_drew w10).trans (hb11.mono (Nat.le_refl _)))
                     have HBz := Lib.hid (show Below wt.heap.size wt w11 from by first | exact HBz.out.trans (hb11.mono HBz.out.size) | exact (HBz.out.trans ((below_drew _).mono HBz.out.size)).trans (hb11.mono (HBz.out.trans ((below_drew _).mono HBz.out.size)).size))
                     obtain ⟨px, py, pf, lx, ly⟩ := HCB.out w11 HBz.out
                     clear hb11))
                go_upto_region 28 with (fail)
                go_region_held3 (fun W' => W'.cell? (ax1.add k) = some (.slice A4 n4 c4) ∧ W'.cell? (ay1.add k) = some (.slice A5 n5 c5) ∧ W'.cell? ⟨(ad'.add (j * 3)).block, (ad'.add (j * 3)).off + 1, none⟩ = some (.int .i64 id)) (first | (go_keep; done) | exact ⟨px, py, pf⟩) (first
                  | (go_at_call 28; refine (refSeek_any A5 n5 c5 L own5 id _ ((HOO.out.lk (by rw [maps_len HOM.out, HN5.out])).on (by first | exact HBz.out | exact HBz.out.trans ((below_drew _).mono HBz.out.size))) HOM.out HRL.out (by omega)).mono ?_; rw [HSO.out]; rintro e w12 ⟨rfl, hb12⟩
                     have HIy : Hid (Below w10.heap.size w10 w12) := Lib.hid (HIx.out.trans (Below.mono (show Below w11.heap.size w11 w12 from by first | exact hb12 | exact (below_drew w11).trans (hb12.mono (Nat.le_refl _))) HIx.out.size))
                     have HBz := Lib.hid (show Below wt.heap.size wt w12 from by first | exact HBz.out.trans (hb12.mono HBz.out.size) | exact (HBz.out.trans ((below_drew _).mono HBz.out.size)).trans (hb12.mono (HBz.out.trans ((below_drew _).mono HBz.out.size)).size))
                     obtain ⟨px, py, pf, lx, ly⟩ := HCB.out w12 HBz.out
                     clear hb12))
                as_aux_lemma =>
                  go_upto_region 29 with (fail)
                  have HII := Lib.hid (HI10.out.onb HIy.out)
                  clear HIx HIy HI10
                  generalize (so.getD 0 : Nat) = sv
                  generalize so.isSome = sb
                  simp only [List.append_eq, List.cons_append, List.nil_append]
                  refine reg29 hl1 (show k < m2 by omega) hpm hmp (by omega) hn49 hn59 hn89 hn99 hfl2 ⟨px, py, pf, lx, ly⟩ (HPL.out.on HBz.out) HRL.out (HOO.out.onb HBz.out) HOM.out HN5.out (HPLz.out.on HBz.out) HRLz.out (HOOz.out.onb HBz.out) HOMz.out HN9.out HII.out HNF.out ?_
                  intro v205 v206 v207 v208 v209 v210 v211 v212 v213 v214 v215 v216 v217 v218 v219 v220 v221 v222 v223 v224 v225 v226 v227 v228 v229 v230 v231 v232 v233 v234 v235 v236 v237 v238 v239 v240 v241 v242 v243 v244 v245 v246 v247 v248 v249 v250 v251 v252 v253 v254 v255 v256 v257 v258 v259 v260 v261 v262 v263 v264 v265 v266 v267 v268 v269 v270 v271 v272 v273 v274 v275 v276 v277 v278 v279 w18 hb18
                  have HBz := Lib.hid (HBz.out.trans (hb18.mono HBz.out.size))
                  clear hb18
                  all_goals
                    go_wp2
                    go_roundw
                    case rel => exact ⟨j + 1, m2, _, _, by go_num, by omega, by omega, rfl, rfl, by omega, by omega, Lib.hid ⟨_, _, _, (HPVt.out.on HBz.out).more (by omega)⟩⟩
                    case measure => simp only [intOf]; omega
        by_cases hk2 : kd = 2
        · have hkk1 : (kd == 1) = false := by simp [hk1]
          have hkk2 : (kd == 2) = true := by simp [hk2]
          clear hk1 hk2
          as_aux_lemma =>
            have hll := len_flat hRL
            obtain ⟨L, hL⟩ : ∃ L, L = Ls.getD k [] := ⟨_, rfl⟩
            rw [← hL] at hRL hfl hpl hom hn5 hn4 hll
            have hn59 : n5 ≤ 200 := by omega
            have hn49 : n4 ≤ 200 := by omega
            have HRL := Lib.hid hRL
            have HPL := Lib.hid hpl
            have HOO := Lib.hid hoo
            have HOM := Lib.hid hom
            have HN5 := Lib.hid hn5
            obtain ⟨L6, hL6⟩ : ∃ L6, L6 = remX id L := ⟨_, rfl⟩
            obtain ⟨ao, hao⟩ : ∃ ao, ao = remO id L := ⟨_, rfl⟩
            have HADD : Hid (∀ (F : Nat → Prop) W, (∀ b, F b → b < W.heap.size) → PLF W F A4 n4 c4 L → Calls Try.prog 13 #[plV A4 n4 c4, .int .i64 id] W (AddP F L6 ao W)) := Lib.hid (fun F W hF hp => by rw [hL6, hao]; exact prog_remF F A4 n4 c4 L id W hF hp HRL.out (by omega))
            have HREF : Hid (∀ W, LK .i64 W W.heap.size A5 n5 c5 own5 → Calls Try.prog 26 #[.slice A5 n5 c5, .int .i64 id] W (RefR L6 ao W)) := Lib.hid (fun W h => by rw [hL6, hao]; exact ref_rem A5 n5 c5 L own5 id W h HOM.out HRL.out (by omega))
            have hR6 : RL L6 := by rw [hL6]; exact remX_right HRL.out
            have HR6 := Lib.hid hR6
            have hf6 : L6.flatten.length ≤ 100 + j + 1 := by rw [hL6]; have := remX_len (x := id) HRL.out; omega
            have hll6 := len_flat hR6
            obtain ⟨n6, hn6⟩ : ∃ n6, n6 = L6.length := ⟨_, rfl⟩
            have HN6 := Lib.hid hn6
            have HF6 := Lib.hid hf6
            have hn69 : n6 ≤ 200 := by omega
            clear hL hRL hfl hpl hoo hom hn5 hn4 hll hL6 hao hR6 hf6 hll6 hn6
            go_upto_region 21 with (fail)
            obtain ⟨Wd, hWd⟩ : ∃ Wd : World, Wd = wr.drew := ⟨_, rfl⟩
            have HBd : Hid (Below wr.heap.size wr Wd) := Lib.hid (by rw [hWd]; exact below_drew wr)
            have hS : Two (ax0.add k) ⟨(ad'.add (j * 3)).block, (ad'.add (j * 3)).off + 1, none⟩ (.slice A4 n4 c4) (.int .i64 id) Wd := by rw [hWd]; exact ⟨gx, f1⟩
            have HRB := Lib.hid HPV.out.rb
            refine wp_region_K (Two (ax0.add k) ⟨(ad'.add (j * 3)).block, (ad'.add (j * 3)).off + 1, none⟩ (.slice A4 n4 c4) (.int .i64 id)) 14 (by kernel_rfl) ?_
            rw [← hWd]
            clear hWd
            refine wpAnyK_pure (i := 0) (oi := _) (v := ?_) (by rfl) (by kernel_rfl) (by intro _ _ _ h; exact h) (Or.inl ⟨by rfl, ?_⟩) ?_
            rotate_left 1
            · intro w' _
              go_simp
              all_goals with_reducible rfl
            simp only [Act.put, List.getElem_toArray, List.getElem_cons_zero, List.getElem_cons_succ, List.setIfInBounds_toArray, List.set_cons_zero, List.set_cons_succ]
            refine wpAnyK_pure (i := 1) (oi := _) (v := ?_) (by rfl) (by kernel_rfl) (by intro _ _ _ h; exact h) (Or.inl ⟨by rfl, ?_⟩) ?_
            rotate_left 1
            · intro w' _
              go_simp
              all_goals with_reducible rfl
            simp only [Act.put, List.getElem_toArray, List.getElem_cons_zero, List.getElem_cons_succ, List.setIfInBounds_toArray, List.set_cons_zero, List.set_cons_succ]
            refine wpAnyK_pure (i := 2) (oi := _) (v := ?_) (by rfl) (by kernel_rfl) (by intro _ _ _ h; exact h) (Or.inl ⟨by rfl, ?_⟩) ?_
            rotate_left 1
            · intro w' _
              go_simp
              all_goals with_reducible rfl
            simp only [Act.put, List.getElem_toArray, List.getElem_cons_zero, List.getElem_cons_succ, List.setIfInBounds_toArray, List.set_cons_zero, List.set_cons_succ]
            refine wpAnyK_take (i := 3) (oi := _) (v := ?_) (by rfl) (by kernel_rfl) (by intro _ _ _ h; exact h) hS (Or.inl ⟨by rfl, ?_⟩) ?_
            rotate_left 1
            · intro w' hl
              have hl1 := hl.1
              have hl2 := hl.2
              clear hl
              go_simp
              all_goals with_reducible rfl
            simp only [Act.put, List.getElem_toArray, List.getElem_cons_zero, List.getElem_cons_succ, List.setIfInBounds_toArray, List.set_cons_zero, List.set_cons_succ]
            refine wpAnyK_pure (i := 4) (oi := _) (v := ?_) (by rfl) (by kernel_rfl) (by intro _ _ _ h; exact h) (Or.inl ⟨by rfl, ?_⟩) ?_
            rotate_left 1
            · intro w' _
              go_simp
              all_goals with_reducible rfl
            simp only [Act.put, List.getElem_toArray, List.getElem_cons_zero, List.getElem_cons_succ, List.setIfInBounds_toArray, List.set_cons_zero, List.set_cons_succ]
            refine wpAnyK_pure (i := 5) (oi := _) (v := ?_) (by rfl) (by kernel_rfl) (by intro _ _ _ h; exact h) (Or.inl ⟨by rfl, ?_⟩) ?_
            rotate_left 1
            · intro w' _
              go_simp
              all_goals with_reducible rfl
            simp only [Act.put, List.getElem_toArray, List.getElem_cons_zero, List.getElem_cons_succ, List.setIfInBounds_toArray, List.set_cons_zero, List.set_cons_succ]
            refine wpAnyK_pure (i := 6) (oi := _) (v := ?_) (by rfl) (by kernel_rfl) (by intro _ _ _ h; exact h) (Or.inl ⟨by rfl, ?_⟩) ?_
            rotate_left 1
            · intro w' _
              go_simp
              all_goals with_reducible rfl
            simp only [Act.put, List.getElem_toArray, List.getElem_cons_zero, List.getElem_cons_succ, List.setIfInBounds_toArray, List.set_cons_zero, List.set_cons_succ]
            refine wpAnyK_pure (i := 7) (oi := _) (v := ?_) (by rfl) (by kernel_rfl) (by intro _ _ _ h; exact h) (Or.inl ⟨by rfl, ?_⟩) ?_
            rotate_left 1
            · intro w' _
              go_simp
              all_goals with_reducible rfl
            simp only [Act.put, List.getElem_toArray, List.getElem_cons_zero, List.getElem_cons_succ, List.setIfInBounds_toArray, List.set_cons_zero, List.set_cons_succ]
            refine wpAnyK_take (i := 8) (oi := _) (v := ?_) (by rfl) (by kernel_rfl) (by intro _ _ _ h; exact h) hS (Or.inl ⟨by rfl, ?_⟩) ?_
            rotate_left 1
            · intro w' hl
              have hl1 := hl.1
              have hl2 := hl.2
              clear hl
              go_simp
              all_goals with_reducible rfl
            simp only [Act.put, List.getElem_toArray, List.getElem_cons_zero, List.getElem_cons_succ, List.setIfInBounds_toArray, List.set_cons_zero, List.set_cons_succ]
            refine wpAnyK_all (rs := [9, 13]) (by kernel_rfl) (by simp) ?_
            intro ix hix
            simp only [List.mem_cons, List.not_mem_nil, or_false] at hix
            rcases hix with rfl | rfl
            · as_aux_lemma =>
                refine wpK_op (o := _) (by rfl) (fun K hK => ?_)
                go_simp
                go_at_call 13
                refine (HADD.out (RB (.slice (some ax0) m cx) (.slice (some ay0) m cy)) Wd (fun b hb => Nat.lt_of_lt_of_le (HRB.out b hb) HBd.out.size) (HPL.out.on HBd.out)).mono ?_
                rintro e w9 ⟨A6, c6, rfl, hb9, hp9⟩
                rw [← HN6.out] at hp9 ⊢
                have HB9 : Hid (Below wr.heap.size wr w9) := Lib.hid (HBd.out.trans (hb9.mono HBd.out.size))
                have HP9 := Lib.hid hp9
                have hS9 : Two (ax0.add k) ⟨(ad'.add (j * 3)).block, (ad'.add (j * 3)).off + 1, none⟩ (.slice A4 n4 c4) (.int .i64 id) w9 := ⟨(hb9.cell (World.block_lt_of_cell? _ _ hS.1)).trans hS.1, (hb9.cell (World.block_lt_of_cell? _ _ hS.2)).trans hS.2⟩
                clear hb9 hp9
                refine hK _ _ (fun _ _ => hS9) ?_
                clear hK K
                try simp only [Act.put, List.getElem_toArray, List.getElem_cons_zero, List.getElem_cons_succ, List.setIfInBounds_toArray, List.set_cons_zero, List.set_cons_succ]
                refine wpAnyK_pure (i := 10) (oi := _) (v := ?_) (by rfl) (by kernel_rfl) (by intro _ _ _ h; exact h) (Or.inl ⟨by rfl, ?_⟩) ?_
                rotate_left 1
                · intro w' _
                  go_simp
                  all_goals with_reducible rfl
                simp only [Act.put, List.getElem_toArray, List.getElem_cons_zero, List.getElem_cons_succ, List.setIfInBounds_toArray, List.set_cons_zero, List.set_cons_succ]
                refine wpAnyK_pure (i := 11) (oi := _) (v := ?_) (by rfl) (by kernel_rfl) (by intro _ _ _ h; exact h) (Or.inl ⟨by rfl, ?_⟩) ?_
                rotate_left 1
                · intro w' _
                  go_simp
                  all_goals with_reducible rfl
                simp only [Act.put, List.getElem_toArray, List.getElem_cons_zero, List.getElem_cons_succ, List.setIfInBounds_toArray, List.set_cons_zero, List.set_cons_succ]
                refine wpAnyK_pure (i := 12) (oi := _) (v := ?_) (by rfl) (by kernel_rfl) (by intro _ _ _ h; exact h) (Or.inl ⟨by rfl, ?_⟩) ?_
                rotate_left 1
                · intro w' _
                  go_simp
                  all_goals with_reducible rfl
                simp only [Act.put, List.getElem_toArray, List.getElem_cons_zero, List.getElem_cons_succ, List.setIfInBounds_toArray, List.set_cons_zero, List.set_cons_succ]
                refine wpAnyK_all (rs := [13]) (by kernel_rfl) (by simp) ?_
                intro ix hix
                simp only [List.mem_cons, List.not_mem_nil, or_false] at hix
                subst hix
                refine wpK_op (o := _) (by rfl) (fun K hK => ?_)
                go_simp
                refine hK _ _ (fun _ _ => ⟨((below_alloc w9 _).cell (World.block_lt_of_cell? _ _ hS9.1)).trans hS9.1, ((below_alloc w9 _).cell (World.block_lt_of_cell? _ _ hS9.2)).trans hS9.2⟩) ?_
                clear hK K
                try simp only [Act.put, List.getElem_toArray, List.getElem_cons_zero, List.getElem_cons_succ, List.setIfInBounds_toArray, List.set_cons_zero, List.set_cons_succ]
                clear hS9
                refine wpAnyK_all (rs := [14]) (by kernel_rfl) (by simp) ?_
                intro ix hix
                simp only [List.mem_cons, List.not_mem_nil, or_false] at hix
                subst hix
                refine wpK_op (o := _) (by rfl) (fun K hK => ?_)
                go_simp
                refine hK _ _ (fun h => absurd h (by omega)) ?_
                clear hK K
                try simp only [Act.put, List.getElem_toArray, List.getElem_cons_zero, List.getElem_cons_succ, List.setIfInBounds_toArray, List.set_cons_zero, List.set_cons_succ]
                refine wpAnyK_all (rs := [15]) (by kernel_rfl) (by simp) ?_
                intro ix hix
                simp only [List.mem_cons, List.not_mem_nil, or_false] at hix
                subst hix
                refine wpK_op (o := _) (by rfl) (fun K hK => ?_)
                go_simp
                refine hK _ _ (fun h => absurd h (by omega)) ?_
                clear hK K
                try simp only [Act.put, List.getElem_toArray, List.getElem_cons_zero, List.getElem_cons_succ, List.setIfInBounds_toArray, List.set_cons_zero, List.set_cons_succ]
                obtain ⟨b, hb⟩ : ∃ b, b = w9.heap.size := ⟨_, rfl⟩
                rw [← hb]
                obtain ⟨W6, hW6⟩ : ∃ W6 : World, W6 = w9.alloc (Obj.cells #[Value.slice A6 n6 c6] 24) := ⟨_, rfl⟩
                have HBX : Hid (Box (RB (.slice (some ax0) m cx) (.slice (some ay0) m cy)) wr W6 b A6 n6 c6 L6) := Lib.hid (by rw [hW6]; exact Box.late HB9.out HP9.out hb)
                clear HB9 HP9 hb
                refine wpAnyK_done (by kernel_rfl) ?_ _
                rw [← hW6]
                clear hW6 hS
                have gb := HBX.out.cell
                have ge := HBX.out.ge
                have q1 : W6.cell? (ay0.add k) = some (.slice A5 n5 c5) := (HBX.out.bel.cell (World.block_lt_of_cell? _ _ gy)).trans gy
                have q2 : W6.cell? ⟨(ad'.add (j * 3)).block, (ad'.add (j * 3)).off + 1, none⟩ = some (.int .i64 id) := (HBX.out.bel.cell (World.block_lt_of_cell? _ _ f1)).trans f1
                have HGY := Lib.hid gy
                have HF1 := Lib.hid f1
                clear gx gy f1
                go_upto_region 22 with (fail)
                go_region_held3 (fun W' => W'.cell? (ay0.add k) = some (.slice A5 n5 c5) ∧ W'.cell? ⟨(ad'.add (j * 3)).block, (ad'.add (j * 3)).off + 1, none⟩ = some (.int .i64 id)) (first | (go_keep; done) | exact ⟨q1, q2⟩) (first
                  | (go_at_call 26; refine (HREF.out _ ((HOO.out.lk (by rw [maps_len HOM.out, HN5.out])).on (by first | exact HBX.out.bel | exact (HBX.out.on (below_drew _)).bel))).mono ?_
                     rintro e w11 ⟨A7, c7, own7, rfl, hb11, ho11, hm11⟩
                     rw [← HN6.out] at ho11 ⊢
                     have HO7 := Lib.hid (ho11.lower (show w.heap.size ≤ _ from Nat.le_trans HPV.out.bel.size (by first | exact HBX.out.bel.size | exact (HBX.out.on (below_drew _)).bel.size)))
                     have HM7 := Lib.hid hm11
                     have HBX := Lib.hid (show Box (RB (.slice (some ax0) m cx) (.slice (some ay0) m cy)) wr w11 b A6 n6 c6 L6 from by first | exact HBX.out.on hb11 | exact (HBX.out.on (below_drew _)).on hb11)
                     have gb := HBX.out.cell
                     have q1 : w11.cell? (ay0.add k) = some (.slice A5 n5 c5) := (HBX.out.bel.cell (World.block_lt_of_cell? _ _ HGY.out)).trans HGY.out
                     have q2 : w11.cell? ⟨(ad'.add (j * 3)).block, (ad'.add (j * 3)).off + 1, none⟩ = some (.int .i64 id) := (HBX.out.bel.cell (World.block_lt_of_cell? _ _ HF1.out)).trans HF1.out
                     clear hb11 ho11 hm11)
                  | fail)
                clear q1 q2
                go_upto_region 25 with (fail)
                have HV15 := Lib.hid (HPV.out.on HBX.out.bel)
                obtain ⟨m2, hm2⟩ : ∃ m2, m2 = m + 1 := ⟨_, rfl⟩
                have HM2 := Lib.hid hm2
                obtain ⟨i24, h24, z24a, z24b, z24c⟩ := info_parts info24
                obtain ⟨i53, h53, z53a, z53b, z53c⟩ := info_parts info53
                clear hm2
                have hm61 : m ≤ 61 := by omega
                go_upto_region 26 with (first
                  | (refine wpList_append_mid rfl (.tmp 166) (.tmp 168) 57 rfl w.heap.size 24 i24 _ 1 24 Try.underlying57 h24 z24a z24b z24c rfl (by omega) (.slice (some ax0) m cx) m (X.map Ar.v) rfl (HV15.out.rx.alloc_ _) ⟨_, 0, none⟩ 1 1 [.slice A6 n6 c6] rfl rfl (World.news_of_block (cs := #[.slice A6 n6 c6]) (t := 24) (fr := (0, 0)) (heap_alloc_new _ _)) (by simp [Value.oneCell']) (by unfold maxLen; omega) (by omega) (by have := HV15.out.bel.size; simp; omega) ?_
                     intro VX2 w19 hmx hrx
                     have HMX := Lib.hid hmx
                     have HRX := Lib.hid hrx
                     clear hmx hrx)
                  | (refine wpList_append_mid rfl (.tmp 170) (.tmp 172) 58 rfl w.heap.size 53 i53 _ 1 24 Try.underlying58 h53 z53a z53b z53c rfl (by omega) (.slice (some ay0) m cy) m (Y.map Ar.v) rfl (HV15.out.ry2 _ HRX.out _) ⟨_, 0, none⟩ 1 1 [.slice A7 n6 c7] rfl rfl (World.news_of_block (cs := #[.slice A7 n6 c7]) (t := 53) (fr := (0, 0)) (heap_alloc_new _ _)) (by simp [Value.oneCell']) (by unfold maxLen; omega) (by omega) (HV15.out.sz _ HRX.out _) ?_
                     intro VY2 w20 hmy hry
                     have HPV2 : Hid (Pv w w20 VX2 VY2 m2 (100 + j + 1) _ _ _) := Lib.hid (by rw [HM2.out]; exact HV15.out.push HMX.out HRX.out hmy hry HR6.out HF6.out (by omega) HBX.out.pl HO7.out HM7.out HN6.out HN6.out)
                     clear hmy hry HMX HRX)
                  | fail)
                have hm2 : m2 = m + 1 := HM2.out
                have f1 : w20.cell? ⟨(ad'.add (j * 3)).block, (ad'.add (j * 3)).off + 1, none⟩ = some (.int .i64 id) := by
                  have h0 := HPV.out.bel.size
                  have e2 : (⟨(ad'.add (j * 3)).block, (ad'.add (j * 3)).off + 1, none⟩ : Addr) = (ad'.add (j * 3)).add 1 := rfl
                  rw [e2, add_of_add]
                  exact (HPV2.out.bel.cell (p := ad'.add (j * 3 + 1)) (by rw [block_of_add]; exact hbl')).trans (HK1.out)
                obtain ⟨ax, cx, ex⟩ := HPV2.out.rx.form
                obtain ⟨ay, cy, ey⟩ := HPV2.out.ry.form
                subst ex ey
                obtain ⟨ax1, cx1, ay1, cy1, A4, n4, c4, A5, n5, c5, own5, ex, ey, -⟩ := HPV2.out.cell (j := k) (by omega)
                cases ex
                cases ey
                clear gb HADD HREF
                have hkm2 : k < m2 := by omega
                have hm21 : 1 ≤ m2 := by omega
                have hm2j : m2 ≤ 2 + j := by omega
                clear hm2
                obtain ⟨Ls2, hLs2⟩ : ∃ Ls2, Ls2 = Ls ++ [L6] := ⟨_, rfl⟩
                rw [← hLs2] at HPV2
                clear hLs2 HBX HV15 HO7 HM7 HGY HF1
                obtain ⟨wt, hwt⟩ : ∃ wt : World, wt = w20 := ⟨_, rfl⟩
                obtain ⟨p, hp⟩ : ∃ p, p = m2 - 1 := ⟨_, rfl⟩
                have hmp : (m2 : Int) - 1 = p := by omega
                have hpm : p < m2 := by omega
                have p00 : (0 : Int) ≤ p := by omega
                obtain ⟨ax9, cx9, ay9, cy9, A4, n4, c4, A5, n5, c5, own5, ex, ey, gx, gy, hRL, hfl, hpl, hoo, hom, hn5, hn4⟩ := HPV2.out.cell (j := k) (by omega)
                cases ex
                cases ey
                obtain ⟨ax9, cx9, ay9, cy9, A8, n8, c8, A9, n9, c9, own9, ex, ey, lx, ly, hRL9, hfl9, hpl9, hoo9, hom9, hn9, hn8⟩ := HPV2.out.cell hpm
                cases ex
                cases ey
                have hll := len_flat hRL
                have hll9 := len_flat hRL9
                obtain ⟨L, hL⟩ : ∃ L, L = Ls2.getD k [] := ⟨_, rfl⟩
                obtain ⟨Lz, hLz⟩ : ∃ Lz, Lz = Ls2.getD p [] := ⟨_, rfl⟩
                rw [← hL] at hRL hfl hpl hom hn5 hn4 hll
                rw [← hLz] at hRL9 hfl9 hpl9 hom9 hn9 hn8 hll9
                have HRL := Lib.hid hRL
                have HPL := Lib.hid hpl
                have HOO := Lib.hid hoo
                have HOM := Lib.hid hom
                have hn59 : n5 ≤ 200 := by omega
                have hn49 : n4 ≤ 200 := by omega
                have HN5 := Lib.hid hn5
                have HRLz := Lib.hid hRL9
                have HPLz := Lib.hid hpl9
                have HOOz := Lib.hid hoo9
                have HOMz := Lib.hid hom9
                have hn99 : n9 ≤ 200 := by omega
                have hn89 : n8 ≤ 200 := by omega
                have HN9 := Lib.hid hn9
                have hfl2 : L.flatten.length ≤ 200 := by omega
                have h14 : (m2 : Int) ≤ 61 := by omega
                clear hL hRL hpl hoo hom hn5 hn4 hll hfl hLz hRL9 hpl9 hoo9 hom9 hn9 hn8 hll9 hfl9 hp
                obtain ⟨nf, hnf⟩ : ∃ nf, nf = L.flatten.length := ⟨_, rfl⟩
                have HNF := Lib.hid hnf
                rw [← hnf] at hfl2
                obtain ⟨hb, hhb⟩ : ∃ hb, hasB id L.flatten = hb := ⟨_, rfl⟩
                have HHB := Lib.hid hhb
                obtain ⟨so, hso⟩ : ∃ so, fndI id L.flatten = so := ⟨_, rfl⟩
                have HSO := Lib.hid hso
                clear hnf hhb hso
                have hcB : ∀ W', Below wt.heap.size wt W' → W'.cell? (ax1.add k) = some (.slice A4 n4 c4) ∧ W'.cell? (ay1.add k) = some (.slice A5 n5 c5) ∧ W'.cell? ⟨(ad'.add (j * 3)).block, (ad'.add (j * 3)).off + 1, none⟩ = some (.int .i64 id) ∧ W'.cell? (ax1.add p) = some (.slice A8 n8 c8) ∧ W'.cell? (ay1.add p) = some (.slice A9 n9 c9) := fun W' hb => by
                  rw [hwt] at hb
                  exact ⟨(hb.cell (World.block_lt_of_cell? _ _ gx)).trans gx, (hb.cell (World.block_lt_of_cell? _ _ gy)).trans gy, (hb.cell (World.block_lt_of_cell? _ _ f1)).trans f1, (hb.cell (World.block_lt_of_cell? _ _ lx)).trans lx, (hb.cell (World.block_lt_of_cell? _ _ ly)).trans ly⟩
                have HCB := Lib.hid hcB
                have HPVt := Lib.hid HPV2.out
                rw [hwt] at HCB
                rw [← hwt] at HPVt HPL HOO HPLz HOOz
                rw [← hwt] at HCB
                clear hcB gx lx ly f1
                rw [← hwt] at gy ⊢
                clear hwt HPV2
                go_upto_region 27 with (first
                  | (go_at_call 27; refine (refIds_any A5 n5 c5 L own5 _ (HOO.out.lk (by rw [maps_len HOM.out, HN5.out])) HOM.out HRL.out (by omega)).mono ?_; rintro e w10 ⟨A7, c7, rfl, hb10, hm10⟩
                     rw [← HNF.out] at hm10 ⊢
                     have HI10 := Lib.hid hm10
                     have HBz : Hid (Below wt.heap.size wt w10) := Lib.hid hb10
                     clear hb10 hm10)
                  | fail)
                clear gy
                obtain ⟨px, py, pf, lx, ly⟩ := HCB.out _ HBz.out
                go_region_held3 (fun W' => W'.cell? (ax1.add k) = some (.slice A4 n4 c4) ∧ W'.cell? (ay1.add k) = some (.slice A5 n5 c5) ∧ W'.cell? ⟨(ad'.add (j * 3)).block, (ad'.add (j * 3)).off + 1, none⟩ = some (.int .i64 id)) (first | (go_keep; done) | exact ⟨px, py, pf⟩) (first
                  | (go_at_call 20; refine (seek_any A4 n4 c4 L id _ ((HPL.out.on (by first | exact HBz.out | exact HBz.out.trans ((below_drew _).mono HBz.out.size))).pl) HRL.out (by omega)).mono ?_; rw [HSO.out]; rintro e w11 ⟨rfl, hb11⟩
                     have HIx : Hid (Below w10.heap.size w10 w11) := Lib.hid (by first | exact hb11 | exact (below_drew w10).trans (hb11.mono (Nat.le_refl _)))
                     have HBz := Lib.hid (show Below wt.heap.size wt w11 from by first | exact HBz.out.trans (hb11.mono HBz.out.size) | exact (HBz.out.trans ((below_drew _).mono HBz.out.size)).trans (hb11.mono (HBz.out.trans ((below_drew _).mono HBz.out.size)).size))
                     obtain ⟨px, py, pf, lx, ly⟩ := HCB.out w11 HBz.out
                     clear hb11))
                go_upto_region 28 with (fail)
                go_region_held3 (fun W' => W'.cell? (ax1.add k) = some (.slice A4 n4 c4) ∧ W'.cell? (ay1.add k) = some (.slice A5 n5 c5) ∧ W'.cell? ⟨(ad'.add (j * 3)).block, (ad'.add (j * 3)).off + 1, none⟩ = some (.int .i64 id)) (first | (go_keep; done) | exact ⟨px, py, pf⟩) (first
                  | (go_at_call 28; refine (refSeek_any A5 n5 c5 L own5 id _ ((HOO.out.lk (by rw [maps_len HOM.out, HN5.out])).on (by first | exact HBz.out | exact HBz.out.trans ((below_drew _).mono HBz.out.size))) HOM.out HRL.out (by omega)).mono ?_; rw [HSO.out]; rintro e w12 ⟨rfl, hb12⟩
                     have HIy : Hid (Below w10.heap.size w10 w12) := Lib.hid (HIx.out.trans (Below.mono (show Below w11.heap.size w11 w12 from by first | exact hb12 | exact (below_drew w11).trans (hb12.mono (Nat.le_refl _))) HIx.out.size))
                     have HBz := Lib.hid (show Below wt.heap.size wt w12 from by first | exact HBz.out.trans (hb12.mono HBz.out.size) | exact (HBz.out.trans ((below_drew _).mono HBz.out.size)).trans (hb12.mono (HBz.out.trans ((below_drew _).mono HBz.out.size)).size))
                     obtain ⟨px, py, pf, lx, ly⟩ := HCB.out w12 HBz.out
                     clear hb12))
                as_aux_lemma =>
                  go_upto_region 29 with (fail)
                  have HII := Lib.hid (HI10.out.onb HIy.out)
                  clear HIx HIy HI10
                  generalize (so.getD 0 : Nat) = sv
                  generalize so.isSome = sb
                  simp only [List.append_eq, List.cons_append, List.nil_append]
                  refine reg29 hl1 (show k < m2 by omega) hpm hmp (by omega) hn49 hn59 hn89 hn99 hfl2 ⟨px, py, pf, lx, ly⟩ (HPL.out.on HBz.out) HRL.out (HOO.out.onb HBz.out) HOM.out HN5.out (HPLz.out.on HBz.out) HRLz.out (HOOz.out.onb HBz.out) HOMz.out HN9.out HII.out HNF.out ?_
                  intro v205 v206 v207 v208 v209 v210 v211 v212 v213 v214 v215 v216 v217 v218 v219 v220 v221 v222 v223 v224 v225 v226 v227 v228 v229 v230 v231 v232 v233 v234 v235 v236 v237 v238 v239 v240 v241 v242 v243 v244 v245 v246 v247 v248 v249 v250 v251 v252 v253 v254 v255 v256 v257 v258 v259 v260 v261 v262 v263 v264 v265 v266 v267 v268 v269 v270 v271 v272 v273 v274 v275 v276 v277 v278 v279 w18 hb18
                  have HBz := Lib.hid (HBz.out.trans (hb18.mono HBz.out.size))
                  clear hb18
                  all_goals
                    go_wp2
                    go_roundw
                    case rel => exact ⟨j + 1, m2, _, _, by go_num, by omega, by omega, rfl, rfl, by omega, by omega, Lib.hid ⟨_, _, _, (HPVt.out.on HBz.out).more (by omega)⟩⟩
                    case measure => simp only [intOf]; omega
            · as_aux_lemma =>
                refine wpK_op (o := _) (by rfl) (fun K hK => ?_)
                go_simp
                refine hK _ _ (fun _ _ => ⟨((below_alloc Wd _).cell (World.block_lt_of_cell? _ _ hS.1)).trans hS.1, ((below_alloc Wd _).cell (World.block_lt_of_cell? _ _ hS.2)).trans hS.2⟩) ?_
                clear hK K
                try simp only [Act.put, List.getElem_toArray, List.getElem_cons_zero, List.getElem_cons_succ, List.setIfInBounds_toArray, List.set_cons_zero, List.set_cons_succ]
                obtain ⟨b, hb⟩ : ∃ b, b = Wd.heap.size := ⟨_, rfl⟩
                rw [← hb]
                obtain ⟨We, hWe⟩ : ∃ We : World, We = Wd.alloc (Obj.cells #[Value.slice none 0 0] 24) := ⟨_, rfl⟩
                have HWe := Lib.hid hWe
                have HEB : Hid (b = Wd.heap.size) := Lib.hid hb
                have HBe : Hid (Below Wd.heap.size Wd We) := Lib.hid (by rw [hWe]; exact below_alloc Wd _)
                have HZe : Hid (b < We.heap.size) := Lib.hid (by rw [hWe, hb]; simp)
                have hSe : Two (ax0.add k) ⟨(ad'.add (j * 3)).block, (ad'.add (j * 3)).off + 1, none⟩ (.slice A4 n4 c4) (.int .i64 id) We := ⟨(HBe.out.cell (World.block_lt_of_cell? _ _ hS.1)).trans hS.1, (HBe.out.cell (World.block_lt_of_cell? _ _ hS.2)).trans hS.2⟩
                rw [← hWe]
                clear hWe hb
                refine wpAnyK_all (rs := [9]) (by kernel_rfl) (by simp) ?_
                intro ix hix
                simp only [List.mem_cons, List.not_mem_nil, or_false] at hix
                subst hix
                refine wpK_op (o := _) (by rfl) (fun K hK => ?_)
                go_simp
                go_at_call 13
                refine (HADD.out (fun x => RB (.slice (some ax0) m cx) (.slice (some ay0) m cy) x ∨ x = b) We (fun x hx => by rcases hx with hx | hx; exact Nat.lt_of_lt_of_le (HRB.out x hx) (Nat.le_trans HBd.out.size HBe.out.size); exact hx ▸ HZe.out) (((HPL.out.fresh (fun x hx => by rcases hx with hx | hx; exact .inl hx; exact .inr (by have := HBd.out.size; have := HEB.out; omega))).on HBd.out).on HBe.out)).mono ?_
                rintro e w9 ⟨A6, c6, rfl, hb9, hp9⟩
                rw [← HN6.out] at hp9 ⊢
                have HB9 := Lib.hid hb9
                have HP9 := Lib.hid hp9
                have hS9 : Two (ax0.add k) ⟨(ad'.add (j * 3)).block, (ad'.add (j * 3)).off + 1, none⟩ (.slice A4 n4 c4) (.int .i64 id) w9 := ⟨(hb9.cell (World.block_lt_of_cell? _ _ hSe.1)).trans hSe.1, (hb9.cell (World.block_lt_of_cell? _ _ hSe.2)).trans hSe.2⟩
                have hcb : w9.cell? ⟨b, 0, none⟩ = some (.slice none 0 0) := (hb9.cell HZe.out).trans (by rw [HWe.out, HEB.out, cell_of (heap_alloc_new Wd _) 0]; rfl)
                have hfb : w9.frozen? ⟨b, 0, none⟩ = false := by
                  have h0 : We.heap[b]? = some (.cells #[Value.slice none 0 0] 24 (0, 0)) := by rw [HWe.out, HEB.out]; exact heap_alloc_new Wd _
                  exact frozen_of ((hb9.block _ HZe.out).trans h0) 0
                clear hb9 hp9
                refine hK _ _ (fun _ _ => hS9) ?_
                clear hK K
                try simp only [Act.put, List.getElem_toArray, List.getElem_cons_zero, List.getElem_cons_succ, List.setIfInBounds_toArray, List.set_cons_zero, List.set_cons_succ]
                refine wpAnyK_pure (i := 10) (oi := _) (v := ?_) (by rfl) (by kernel_rfl) (by intro _ _ _ h; exact h) (Or.inl ⟨by rfl, ?_⟩) ?_
                rotate_left 1
                · intro w' _
                  go_simp
                  all_goals with_reducible rfl
                simp only [Act.put, List.getElem_toArray, List.getElem_cons_zero, List.getElem_cons_succ, List.setIfInBounds_toArray, List.set_cons_zero, List.set_cons_succ]
                refine wpAnyK_pure (i := 11) (oi := _) (v := ?_) (by rfl) (by kernel_rfl) (by intro _ _ _ h; exact h) (Or.inl ⟨by rfl, ?_⟩) ?_
                rotate_left 1
                · intro w' _
                  go_simp
                  all_goals with_reducible rfl
                simp only [Act.put, List.getElem_toArray, List.getElem_cons_zero, List.getElem_cons_succ, List.setIfInBounds_toArray, List.set_cons_zero, List.set_cons_succ]
                refine wpAnyK_pure (i := 12) (oi := _) (v := ?_) (by rfl) (by kernel_rfl) (by intro _ _ _ h; exact h) (Or.inl ⟨by rfl, ?_⟩) ?_
                rotate_left 1
                · intro w' _
                  go_simp
                  all_goals with_reducible rfl
                simp only [Act.put, List.getElem_toArray, List.getElem_cons_zero, List.getElem_cons_succ, List.setIfInBounds_toArray, List.set_cons_zero, List.set_cons_succ]
                refine wpAnyK_all (rs := [14]) (by kernel_rfl) (by simp) ?_
                intro ix hix
                simp only [List.mem_cons, List.not_mem_nil, or_false] at hix
                subst hix
                refine wpK_op (o := _) (by rfl) (fun K hK => ?_)
                go_simp
                refine hK _ _ (fun h => absurd h (by omega)) ?_
                clear hK K
                try simp only [Act.put, List.getElem_toArray, List.getElem_cons_zero, List.getElem_cons_succ, List.setIfInBounds_toArray, List.set_cons_zero, List.set_cons_succ]
                refine wpAnyK_all (rs := [15]) (by kernel_rfl) (by simp) ?_
                intro ix hix
                simp only [List.mem_cons, List.not_mem_nil, or_false] at hix
                subst hix
                refine wpK_op (o := _) (by rfl) (fun K hK => ?_)
                go_simp
                refine hK _ _ (fun h => absurd h (by omega)) ?_
                clear hK K
                try simp only [Act.put, List.getElem_toArray, List.getElem_cons_zero, List.getElem_cons_succ, List.setIfInBounds_toArray, List.set_cons_zero, List.set_cons_succ]
                clear hcb hfb hS9
                obtain ⟨W6, hW6⟩ : ∃ W6 : World, W6 = w9.setCell ⟨b, 0, none⟩ (.slice A6 n6 c6) := ⟨_, rfl⟩
                have HBX : Hid (Box (RB (.slice (some ax0) m cx) (.slice (some ay0) m cy)) wr W6 b A6 n6 c6 L6) := Lib.hid (by rw [hW6]; exact Box.early HBd.out _ HEB.out (HWe.out ▸ HB9.out) HP9.out)
                clear HB9 HP9 HBe hSe HZe HWe HEB
                refine wpAnyK_done (by kernel_rfl) ?_ _
                rw [← hW6]
                clear hW6 hS
                have gb := HBX.out.cell
                have ge := HBX.out.ge
                have q1 : W6.cell? (ay0.add k) = some (.slice A5 n5 c5) := (HBX.out.bel.cell (World.block_lt_of_cell? _ _ gy)).trans gy
                have q2 : W6.cell? ⟨(ad'.add (j * 3)).block, (ad'.add (j * 3)).off + 1, none⟩ = some (.int .i64 id) := (HBX.out.bel.cell (World.block_lt_of_cell? _ _ f1)).trans f1
                have HGY := Lib.hid gy
                have HF1 := Lib.hid f1
                clear gx gy f1
                go_upto_region 22 with (fail)
                go_region_held3 (fun W' => W'.cell? (ay0.add k) = some (.slice A5 n5 c5) ∧ W'.cell? ⟨(ad'.add (j * 3)).block, (ad'.add (j * 3)).off + 1, none⟩ = some (.int .i64 id)) (first | (go_keep; done) | exact ⟨q1, q2⟩) (first
                  | (go_at_call 26; refine (HREF.out _ ((HOO.out.lk (by rw [maps_len HOM.out, HN5.out])).on (by first | exact HBX.out.bel | exact (HBX.out.on (below_drew _)).bel))).mono ?_
                     rintro e w11 ⟨A7, c7, own7, rfl, hb11, ho11, hm11⟩
                     rw [← HN6.out] at ho11 ⊢
                     have HO7 := Lib.hid (ho11.lower (show w.heap.size ≤ _ from Nat.le_trans HPV.out.bel.size (by first | exact HBX.out.bel.size | exact (HBX.out.on (below_drew _)).bel.size)))
                     have HM7 := Lib.hid hm11
                     have HBX := Lib.hid (show Box (RB (.slice (some ax0) m cx) (.slice (some ay0) m cy)) wr w11 b A6 n6 c6 L6 from by first | exact HBX.out.on hb11 | exact (HBX.out.on (below_drew _)).on hb11)
                     have gb := HBX.out.cell
                     have q1 : w11.cell? (ay0.add k) = some (.slice A5 n5 c5) := (HBX.out.bel.cell (World.block_lt_of_cell? _ _ HGY.out)).trans HGY.out
                     have q2 : w11.cell? ⟨(ad'.add (j * 3)).block, (ad'.add (j * 3)).off + 1, none⟩ = some (.int .i64 id) := (HBX.out.bel.cell (World.block_lt_of_cell? _ _ HF1.out)).trans HF1.out
                     clear hb11 ho11 hm11)
                  | fail)
                clear q1 q2
                go_upto_region 25 with (fail)
                have HV15 := Lib.hid (HPV.out.on HBX.out.bel)
                obtain ⟨m2, hm2⟩ : ∃ m2, m2 = m + 1 := ⟨_, rfl⟩
                have HM2 := Lib.hid hm2
                obtain ⟨i24, h24, z24a, z24b, z24c⟩ := info_parts info24
                obtain ⟨i53, h53, z53a, z53b, z53c⟩ := info_parts info53
                clear hm2
                have hm61 : m ≤ 61 := by omega
                go_upto_region 26 with (first
                  | (refine wpList_append_mid rfl (.tmp 166) (.tmp 168) 57 rfl w.heap.size 24 i24 _ 1 24 Try.underlying57 h24 z24a z24b z24c rfl (by omega) (.slice (some ax0) m cx) m (X.map Ar.v) rfl (HV15.out.rx.alloc_ _) ⟨_, 0, none⟩ 1 1 [.slice A6 n6 c6] rfl rfl (World.news_of_block (cs := #[.slice A6 n6 c6]) (t := 24) (fr := (0, 0)) (heap_alloc_new _ _)) (by simp [Value.oneCell']) (by unfold maxLen; omega) (by omega) (by have := HV15.out.bel.size; simp; omega) ?_
                     intro VX2 w19 hmx hrx
                     have HMX := Lib.hid hmx
                     have HRX := Lib.hid hrx
                     clear hmx hrx)
                  | (refine wpList_append_mid rfl (.tmp 170) (.tmp 172) 58 rfl w.heap.size 53 i53 _ 1 24 Try.underlying58 h53 z53a z53b z53c rfl (by omega) (.slice (some ay0) m cy) m (Y.map Ar.v) rfl (HV15.out.ry2 _ HRX.out _) ⟨_, 0, none⟩ 1 1 [.slice A7 n6 c7] rfl rfl (World.news_of_block (cs := #[.slice A7 n6 c7]) (t := 53) (fr := (0, 0)) (heap_alloc_new _ _)) (by simp [Value.oneCell']) (by unfold maxLen; omega) (by omega) (HV15.out.sz _ HRX.out _) ?_
                     intro VY2 w20 hmy hry
                     have HPV2 : Hid (Pv w w20 VX2 VY2 m2 (100 + j + 1) _ _ _) := Lib.hid (by rw [HM2.out]; exact HV15.out.push HMX.out HRX.out hmy hry HR6.out HF6.out (by omega) HBX.out.pl HO7.out HM7.out HN6.out HN6.out)
                     clear hmy hry HMX HRX)
                  | fail)
                have hm2 : m2 = m + 1 := HM2.out
                have f1 : w20.cell? ⟨(ad'.add (j * 3)).block, (ad'.add (j * 3)).off + 1, none⟩ = some (.int .i64 id) := by
                  have h0 := HPV.out.bel.size
                  have e2 : (⟨(ad'.add (j * 3)).block, (ad'.add (j * 3)).off + 1, none⟩ : Addr) = (ad'.add (j * 3)).add 1 := rfl
                  rw [e2, add_of_add]
                  exact (HPV2.out.bel.cell (p := ad'.add (j * 3 + 1)) (by rw [block_of_add]; exact hbl')).trans (HK1.out)
                obtain ⟨ax, cx, ex⟩ := HPV2.out.rx.form
                obtain ⟨ay, cy, ey⟩ := HPV2.out.ry.form
                subst ex ey
                obtain ⟨ax1, cx1, ay1, cy1, A4, n4, c4, A5, n5, c5, own5, ex, ey, -⟩ := HPV2.out.cell (j := k) (by omega)
                cases ex
                cases ey
                clear gb HADD HREF
                have hkm2 : k < m2 := by omega
                have hm21 : 1 ≤ m2 := by omega
                have hm2j : m2 ≤ 2 + j := by omega
                clear hm2
                obtain ⟨Ls2, hLs2⟩ : ∃ Ls2, Ls2 = Ls ++ [L6] := ⟨_, rfl⟩
                rw [← hLs2] at HPV2
                clear hLs2 HBX HV15 HO7 HM7 HGY HF1
                obtain ⟨wt, hwt⟩ : ∃ wt : World, wt = w20 := ⟨_, rfl⟩
                obtain ⟨p, hp⟩ : ∃ p, p = m2 - 1 := ⟨_, rfl⟩
                have hmp : (m2 : Int) - 1 = p := by omega
                have hpm : p < m2 := by omega
                have p00 : (0 : Int) ≤ p := by omega
                obtain ⟨ax9, cx9, ay9, cy9, A4, n4, c4, A5, n5, c5, own5, ex, ey, gx, gy, hRL, hfl, hpl, hoo, hom, hn5, hn4⟩ := HPV2.out.cell (j := k) (by omega)
                cases ex
                cases ey
                obtain ⟨ax9, cx9, ay9, cy9, A8, n8, c8, A9, n9, c9, own9, ex, ey, lx, ly, hRL9, hfl9, hpl9, hoo9, hom9, hn9, hn8⟩ := HPV2.out.cell hpm
                cases ex
                cases ey
                have hll := len_flat hRL
                have hll9 := len_flat hRL9
                obtain ⟨L, hL⟩ : ∃ L, L = Ls2.getD k [] := ⟨_, rfl⟩
                obtain ⟨Lz, hLz⟩ : ∃ Lz, Lz = Ls2.getD p [] := ⟨_, rfl⟩
                rw [← hL] at hRL hfl hpl hom hn5 hn4 hll
                rw [← hLz] at hRL9 hfl9 hpl9 hom9 hn9 hn8 hll9
                have HRL := Lib.hid hRL
                have HPL := Lib.hid hpl
                have HOO := Lib.hid hoo
                have HOM := Lib.hid hom
                have hn59 : n5 ≤ 200 := by omega
                have hn49 : n4 ≤ 200 := by omega
                have HN5 := Lib.hid hn5
                have HRLz := Lib.hid hRL9
                have HPLz := Lib.hid hpl9
                have HOOz := Lib.hid hoo9
                have HOMz := Lib.hid hom9
                have hn99 : n9 ≤ 200 := by omega
                have hn89 : n8 ≤ 200 := by omega
                have HN9 := Lib.hid hn9
                have hfl2 : L.flatten.length ≤ 200 := by omega
                have h14 : (m2 : Int) ≤ 61 := by omega
                clear hL hRL hpl hoo hom hn5 hn4 hll hfl hLz hRL9 hpl9 hoo9 hom9 hn9 hn8 hll9 hfl9 hp
                obtain ⟨nf, hnf⟩ : ∃ nf, nf = L.flatten.length := ⟨_, rfl⟩
                have HNF := Lib.hid hnf
                rw [← hnf] at hfl2
                obtain ⟨hb, hhb⟩ : ∃ hb, hasB id L.flatten = hb := ⟨_, rfl⟩
                have HHB := Lib.hid hhb
                obtain ⟨so, hso⟩ : ∃ so, fndI id L.flatten = so := ⟨_, rfl⟩
                have HSO := Lib.hid hso
                clear hnf hhb hso
                have hcB : ∀ W', Below wt.heap.size wt W' → W'.cell? (ax1.add k) = some (.slice A4 n4 c4) ∧ W'.cell? (ay1.add k) = some (.slice A5 n5 c5) ∧ W'.cell? ⟨(ad'.add (j * 3)).block, (ad'.add (j * 3)).off + 1, none⟩ = some (.int .i64 id) ∧ W'.cell? (ax1.add p) = some (.slice A8 n8 c8) ∧ W'.cell? (ay1.add p) = some (.slice A9 n9 c9) := fun W' hb => by
                  rw [hwt] at hb
                  exact ⟨(hb.cell (World.block_lt_of_cell? _ _ gx)).trans gx, (hb.cell (World.block_lt_of_cell? _ _ gy)).trans gy, (hb.cell (World.block_lt_of_cell? _ _ f1)).trans f1, (hb.cell (World.block_lt_of_cell? _ _ lx)).trans lx, (hb.cell (World.block_lt_of_cell? _ _ ly)).trans ly⟩
                have HCB := Lib.hid hcB
                have HPVt := Lib.hid HPV2.out
                rw [hwt] at HCB
                rw [← hwt] at HPVt HPL HOO HPLz HOOz
                rw [← hwt] at HCB
                clear hcB gx lx ly f1
                rw [← hwt] at gy ⊢
                clear hwt HPV2
                go_upto_region 27 with (first
                  | (go_at_call 27; refine (refIds_any A5 n5 c5 L own5 _ (HOO.out.lk (by rw [maps_len HOM.out, HN5.out])) HOM.out HRL.out (by omega)).mono ?_; rintro e w10 ⟨A7, c7, rfl, hb10, hm10⟩
                     rw [← HNF.out] at hm10 ⊢
                     have HI10 := Lib.hid hm10
                     have HBz : Hid (Below wt.heap.size wt w10) := Lib.hid hb10
                     clear hb10 hm10)
                  | fail)
                clear gy
                obtain ⟨px, py, pf, lx, ly⟩ := HCB.out _ HBz.out
                go_region_held3 (fun W' => W'.cell? (ax1.add k) = some (.slice A4 n4 c4) ∧ W'.cell? (ay1.add k) = some (.slice A5 n5 c5) ∧ W'.cell? ⟨(ad'.add (j * 3)).block, (ad'.add (j * 3)).off + 1, none⟩ = some (.int .i64 id)) (first | (go_keep; done) | exact ⟨px, py, pf⟩) (first
                  | (go_at_call 20; refine (seek_any A4 n4 c4 L id _ ((HPL.out.on (by first | exact HBz.out | exact HBz.out.trans ((below_drew _).mono HBz.out.size))).pl) HRL.out (by omega)).mono ?_; rw [HSO.out]; rintro e w11 ⟨rfl, hb11⟩
                     have HIx : Hid (Below w10.heap.size w10 w11) := Lib.hid (by first | exact hb11 | exact (below_drew w10).trans (hb11.mono (Nat.le_refl _)))
                     have HBz := Lib.hid (show Below wt.heap.size wt w11 from by first | exact HBz.out.trans (hb11.mono HBz.out.size) | exact (HBz.out.trans ((below_drew _).mono HBz.out.size)).trans (hb11.mono (HBz.out.trans ((below_drew _).mono HBz.out.size)).size))
                     obtain ⟨px, py, pf, lx, ly⟩ := HCB.out w11 HBz.out
                     clear hb11))
                go_upto_region 28 with (fail)
                go_region_held3 (fun W' => W'.cell? (ax1.add k) = some (.slice A4 n4 c4) ∧ W'.cell? (ay1.add k) = some (.slice A5 n5 c5) ∧ W'.cell? ⟨(ad'.add (j * 3)).block, (ad'.add (j * 3)).off + 1, none⟩ = some (.int .i64 id)) (first | (go_keep; done) | exact ⟨px, py, pf⟩) (first
                  | (go_at_call 28; refine (refSeek_any A5 n5 c5 L own5 id _ ((HOO.out.lk (by rw [maps_len HOM.out, HN5.out])).on (by first | exact HBz.out | exact HBz.out.trans ((below_drew _).mono HBz.out.size))) HOM.out HRL.out (by omega)).mono ?_; rw [HSO.out]; rintro e w12 ⟨rfl, hb12⟩
                     have HIy : Hid (Below w10.heap.size w10 w12) := Lib.hid (HIx.out.trans (Below.mono (show Below w11.heap.size w11 w12 from by first | exact hb12 | exact (below_drew w11).trans (hb12.mono (Nat.le_refl _))) HIx.out.size))
                     have HBz := Lib.hid (show Below wt.heap.size wt w12 from by first | exact HBz.out.trans (hb12.mono HBz.out.size) | exact (HBz.out.trans ((below_drew _).mono HBz.out.size)).trans (hb12.mono (HBz.out.trans ((below_drew _).mono HBz.out.size)).size))
                     obtain ⟨px, py, pf, lx, ly⟩ := HCB.out w12 HBz.out
                     clear hb12))
                as_aux_lemma =>
                  go_upto_region 29 with (fail)
                  have HII := Lib.hid (HI10.out.onb HIy.out)
                  clear HIx HIy HI10
                  generalize (so.getD 0 : Nat) = sv
                  generalize so.isSome = sb
                  simp only [List.append_eq, List.cons_append, List.nil_append]
                  refine reg29 hl1 (show k < m2 by omega) hpm hmp (by omega) hn49 hn59 hn89 hn99 hfl2 ⟨px, py, pf, lx, ly⟩ (HPL.out.on HBz.out) HRL.out (HOO.out.onb HBz.out) HOM.out HN5.out (HPLz.out.on HBz.out) HRLz.out (HOOz.out.onb HBz.out) HOMz.out HN9.out HII.out HNF.out ?_
                  intro v205 v206 v207 v208 v209 v210 v211 v212 v213 v214 v215 v216 v217 v218 v219 v220 v221 v222 v223 v224 v225 v226 v227 v228 v229 v230 v231 v232 v233 v234 v235 v236 v237 v238 v239 v240 v241 v242 v243 v244 v245 v246 v247 v248 v249 v250 v251 v252 v253 v254 v255 v256 v257 v258 v259 v260 v261 v262 v263 v264 v265 v266 v267 v268 v269 v270 v271 v272 v273 v274 v275 v276 v277 v278 v279 w18 hb18
                  have HBz := Lib.hid (HBz.out.trans (hb18.mono HBz.out.size))
                  clear hb18
                  all_goals
                    go_wp2
                    go_roundw
                    case rel => exact ⟨j + 1, m2, _, _, by go_num, by omega, by omega, rfl, rfl, by omega, by omega, Lib.hid ⟨_, _, _, (HPVt.out.on HBz.out).more (by omega)⟩⟩
                    case measure => simp only [intOf]; omega
        have hkk1 : (kd == 1) = false := by simp [hk1]
        have hkk2 : (kd == 2) = false := by simp [hk2]
        clear hk1 hk2 hRL hfl hpl hoo hom hn5 hn4 gx gy
        as_aux_lemma =>
          obtain ⟨wt, hwt⟩ : ∃ wt : World, wt = wr := ⟨_, rfl⟩
          obtain ⟨p, hp⟩ : ∃ p, p = m - 1 := ⟨_, rfl⟩
          have hmp : (m : Int) - 1 = p := by omega
          have hpm : p < m := by omega
          have p00 : (0 : Int) ≤ p := by omega
          obtain ⟨ax9, cx9, ay9, cy9, A4, n4, c4, A5, n5, c5, own5, ex, ey, gx, gy, hRL, hfl, hpl, hoo, hom, hn5, hn4⟩ := HPV.out.cell (j := k) (by omega)
          cases ex
          cases ey
          obtain ⟨ax9, cx9, ay9, cy9, A8, n8, c8, A9, n9, c9, own9, ex, ey, lx, ly, hRL9, hfl9, hpl9, hoo9, hom9, hn9, hn8⟩ := HPV.out.cell hpm
          cases ex
          cases ey
          have hll := len_flat hRL
          have hll9 := len_flat hRL9
          obtain ⟨L, hL⟩ : ∃ L, L = Ls.getD k [] := ⟨_, rfl⟩
          obtain ⟨Lz, hLz⟩ : ∃ Lz, Lz = Ls.getD p [] := ⟨_, rfl⟩
          rw [← hL] at hRL hfl hpl hom hn5 hn4 hll
          rw [← hLz] at hRL9 hfl9 hpl9 hom9 hn9 hn8 hll9
          have HRL := Lib.hid hRL
          have HPL := Lib.hid hpl
          have HOO := Lib.hid hoo
          have HOM := Lib.hid hom
          have hn59 : n5 ≤ 200 := by omega
          have hn49 : n4 ≤ 200 := by omega
          have HN5 := Lib.hid hn5
          have HRLz := Lib.hid hRL9
          have HPLz := Lib.hid hpl9
          have HOOz := Lib.hid hoo9
          have HOMz := Lib.hid hom9
          have hn99 : n9 ≤ 200 := by omega
          have hn89 : n8 ≤ 200 := by omega
          have HN9 := Lib.hid hn9
          have hfl2 : L.flatten.length ≤ 200 := by omega
          have h14 : (m : Int) ≤ 61 := by omega
          clear hL hRL hpl hoo hom hn5 hn4 hll hfl hLz hRL9 hpl9 hoo9 hom9 hn9 hn8 hll9 hfl9 hp
          obtain ⟨nf, hnf⟩ : ∃ nf, nf = L.flatten.length := ⟨_, rfl⟩
          have HNF := Lib.hid hnf
          rw [← hnf] at hfl2
          obtain ⟨hb, hhb⟩ : ∃ hb, hasB id L.flatten = hb := ⟨_, rfl⟩
          have HHB := Lib.hid hhb
          obtain ⟨so, hso⟩ : ∃ so, fndI id L.flatten = so := ⟨_, rfl⟩
          have HSO := Lib.hid hso
          clear hnf hhb hso
          have hcB : ∀ W', Below wt.heap.size wt W' → W'.cell? (ax0.add k) = some (.slice A4 n4 c4) ∧ W'.cell? (ay0.add k) = some (.slice A5 n5 c5) ∧ W'.cell? ⟨(ad'.add (j * 3)).block, (ad'.add (j * 3)).off + 1, none⟩ = some (.int .i64 id) ∧ W'.cell? (ax0.add p) = some (.slice A8 n8 c8) ∧ W'.cell? (ay0.add p) = some (.slice A9 n9 c9) := fun W' hb => by
            rw [hwt] at hb
            exact ⟨(hb.cell (World.block_lt_of_cell? _ _ gx)).trans gx, (hb.cell (World.block_lt_of_cell? _ _ gy)).trans gy, (hb.cell (World.block_lt_of_cell? _ _ f1)).trans f1, (hb.cell (World.block_lt_of_cell? _ _ lx)).trans lx, (hb.cell (World.block_lt_of_cell? _ _ ly)).trans ly⟩
          have HCB := Lib.hid hcB
          have HPVt := Lib.hid HPV.out
          rw [hwt] at HCB
          rw [← hwt] at HPVt HPL HOO HPLz HOOz
          rw [← hwt] at HCB
          clear hcB gx lx ly f1
          rw [← hwt] at gy ⊢
          clear hwt HPV
          go_upto_region 27 with (first
            | (go_at_call 27; refine (refIds_any A5 n5 c5 L own5 _ (HOO.out.lk (by rw [maps_len HOM.out, HN5.out])) HOM.out HRL.out (by omega)).mono ?_; rintro e w10 ⟨A7, c7, rfl, hb10, hm10⟩
               rw [← HNF.out] at hm10 ⊢
               have HI10 := Lib.hid hm10
               have HBz : Hid (Below wt.heap.size wt w10) := Lib.hid hb10
               clear hb10 hm10)
            | fail)
          clear gy
          obtain ⟨px, py, pf, lx, ly⟩ := HCB.out _ HBz.out
          go_region_held3 (fun W' => W'.cell? (ax0.add k) = some (.slice A4 n4 c4) ∧ W'.cell? (ay0.add k) = some (.slice A5 n5 c5) ∧ W'.cell? ⟨(ad'.add (j * 3)).block, (ad'.add (j * 3)).off + 1, none⟩ = some (.int .i64 id)) (first | (go_keep; done) | exact ⟨px, py, pf⟩) (first
            | (go_at_call 20; refine (seek_any A4 n4 c4 L id _ ((HPL.out.on (by first | exact HBz.out | exact HBz.out.trans ((below_drew _).mono HBz.out.size))).pl) HRL.out (by omega)).mono ?_; rw [HSO.out]; rintro e w11 ⟨rfl, hb11⟩
               have HIx : Hid (Below w10.heap.size w10 w11) := Lib.hid (by first | exact hb11 | exact (below_drew w10).trans (hb11.mono (Nat.le_refl _)))
               have HBz := Lib.hid (show Below wt.heap.size wt w11 from by first | exact HBz.out.trans (hb11.mono HBz.out.size) | exact (HBz.out.trans ((below_drew _).mono HBz.out.size)).trans (hb11.mono (HBz.out.trans ((below_drew _).mono HBz.out.size)).size))
               obtain ⟨px, py, pf, lx, ly⟩ := HCB.out w11 HBz.out
               clear hb11))
          go_upto_region 28 with (fail)
          go_region_held3 (fun W' => W'.cell? (ax0.add k) = some (.slice A4 n4 c4) ∧ W'.cell? (ay0.add k) = some (.slice A5 n5 c5) ∧ W'.cell? ⟨(ad'.add (j * 3)).block, (ad'.add (j * 3)).off + 1, none⟩ = some (.int .i64 id)) (first | (go_keep; done) | exact ⟨px, py, pf⟩) (first
            | (go_at_call 28; refine (refSeek_any A5 n5 c5 L own5 id _ ((HOO.out.lk (by rw [maps_len HOM.out, HN5.out])).on (by first | exact HBz.out | exact HBz.out.trans ((below_drew _).mono HBz.out.size))) HOM.out HRL.out (by omega)).mono ?_; rw [HSO.out]; rintro e w12 ⟨rfl, hb12⟩
               have HIy : Hid (Below w10.heap.size w10 w12) := Lib.hid (HIx.out.trans (Below.mono (show Below w11.heap.size w11 w12 from by first | exact hb12 | exact (below_drew w11).trans (hb12.mono (Nat.le_refl _))) HIx.out.size))
               have HBz := Lib.hid (show Below wt.heap.size wt w12 from by first | exact HBz.out.trans (hb12.mono HBz.out.size) | exact (HBz.out.trans ((below_drew _).mono HBz.out.size)).trans (hb12.mono (HBz.out.trans ((below_drew _).mono HBz.out.size)).size))
               obtain ⟨px, py, pf, lx, ly⟩ := HCB.out w12 HBz.out
               clear hb12))
          as_aux_lemma =>
            go_upto_region 29 with (fail)
            have HII := Lib.hid (HI10.out.onb HIy.out)
            clear HIx HIy HI10
            generalize (so.getD 0 : Nat) = sv
            generalize so.isSome = sb
            simp only [List.append_eq, List.cons_append, List.nil_append]
            refine reg29 hl1 (show k < m by omega) hpm hmp (by omega) hn49 hn59 hn89 hn99 hfl2 ⟨px, py, pf, lx, ly⟩ (HPL.out.on HBz.out) HRL.out (HOO.out.onb HBz.out) HOM.out HN5.out (HPLz.out.on HBz.out) HRLz.out (HOOz.out.onb HBz.out) HOMz.out HN9.out HII.out HNF.out ?_
            intro v205 v206 v207 v208 v209 v210 v211 v212 v213 v214 v215 v216 v217 v218 v219 v220 v221 v222 v223 v224 v225 v226 v227 v228 v229 v230 v231 v232 v233 v234 v235 v236 v237 v238 v239 v240 v241 v242 v243 v244 v245 v246 v247 v248 v249 v250 v251 v252 v253 v254 v255 v256 v257 v258 v259 v260 v261 v262 v263 v264 v265 v266 v267 v268 v269 v270 v271 v272 v273 v274 v275 v276 v277 v278 v279 w18 hb18
            have HBz := Lib.hid (HBz.out.trans (hb18.mono HBz.out.size))
            clear hb18
            all_goals
              go_wp2
              go_roundw
              case rel => exact ⟨j + 1, m, _, _, by go_num, by omega, by omega, rfl, rfl, by omega, by omega, Lib.hid ⟨_, _, _, (HPVt.out.on HBz.out).more (by omega)⟩⟩
              case measure => simp only [intOf]; omega
      · as_aux_lemma =>
          have hlt2 : j < n' ∧ ¬ j < 60 ∨ ¬ j < n' := by omega
          obtain ⟨w0, hw0⟩ : ∃ w0 : World, w0 = wr := ⟨_, rfl⟩
          rw [← hw0] at HPV ⊢
          clear hw0
          have hm61 : m ≤ 61 := by omega
          obtain ⟨ax, cx, ex⟩ := HPV.out.rx.form
          obtain ⟨ay, cy, ey⟩ := HPV.out.ry.form
          subst ex ey
          rcases hlt2 with ⟨g1, g2⟩ | g1
          all_goals
            go_wp2
            go_loopw [27, 283] (fun _ i W => ∃ z : Nat, i = .int .i64 z ∧ z ≤ m ∧ Hid (Pv w W (.slice ax m cx) (.slice ay m cy) m (100 + j) X Y Ls)) (fun _ i _ => m - (intOf i).toNat)
            case atStart => exact ⟨0, rfl, Nat.zero_le _, HPV⟩
            case round =>
              obtain ⟨z, rfl, hz, HPZ⟩ := hrel
              have z0 : (0 : Int) ≤ z := by omega
              by_cases hzm : z < m
              · obtain ⟨ax0, cx0, ay0, cy0, A4, n4, c4, A5, n5, c5, own5, ex, ey, gx, gy, hRL, hfl, hpl, hoo, hom, hn5, hn4⟩ := HPZ.out.cell hzm
                cases ex
                cases ey
                have z1 : (z : Int) < m := by omega
                have hll := len_flat hRL
                have HRL := Lib.hid hRL
                have HPL := Lib.hid hpl
                have HOO := Lib.hid hoo
                have HOM := Lib.hid hom
                have hn59 : n5 ≤ 200 := by omega
                have hn49 : n4 ≤ 200 := by omega
                have HN5 := Lib.hid hn5
                clear hRL hfl hpl hoo hom hn5 hn4 hll
                go_upto_region 34 with (fail)
                go_region_held3 (fun W' => W'.cell? (ax0.add z) = some (.slice A4 n4 c4) ∧ W'.cell? (ay0.add z) = some (.slice A5 n5 c5)) (first | (go_keep; done) | exact ⟨gx, gy⟩) (first
                  | (go_at_call 14; refine (blocksEq_any A4 A5 n4 c4 n5 c5 _ own5 _ ((HPL.out.on (by first | exact Below.refl _ _ | exact below_drew _)).pl) HRL.out (by omega) ((HOO.out.lk (by rw [maps_len HOM.out, HN5.out])).on (by first | exact Below.refl _ _ | exact below_drew _)) HOM.out).mono ?_
                     rintro e w18 ⟨rfl, hb18⟩
                     have hbb : Below wr.heap.size wr w18 := by first | exact hb18 | exact (below_drew wr).trans hb18
                     have HPZ := Lib.hid (HPZ.out.on hbb)
                     have gx : w18.cell? (ax0.add z) = some (.slice A4 n4 c4) := (hbb.cell (World.block_lt_of_cell? _ _ gx)).trans gx
                     have gy : w18.cell? (ay0.add z) = some (.slice A5 n5 c5) := (hbb.cell (World.block_lt_of_cell? _ _ gy)).trans gy
                     clear hb18 hbb)
                  | fail)
                go_wp2
                go_roundw
                case rel => exact ⟨z + 1, by go_num, by omega, HPZ⟩
                case measure => simp only [intOf]; omega
              · obtain rfl : m = z := by omega
                go_wp2_with (first
                  | (go_at_call 3; refine (runs_any _).mono ?_; rintro e w3 ⟨rfl, hb3⟩
                     have HBE := Lib.hid (HPZ.out.bel.trans (hb3.mono HPZ.out.bel.size))
                     clear hb3)
                  | fail)
                go_ret
                exact ⟨rfl, HBE.out⟩
end Go.Proofs.Ytokjeglhmmijfaa
