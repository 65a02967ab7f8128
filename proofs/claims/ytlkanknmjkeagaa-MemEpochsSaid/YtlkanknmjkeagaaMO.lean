/-
  The law MemEpochs at any lists: the walk; no condition.
-/
import Derived.Test.YtlkanknmjkeagaaMT
import Derived.Test.YtlkanknmjkeagaaDe
namespace Go.Proofs.Ytlkanknmjkeagaa
open Go.RowKit Go.WideShapes Go.ChangeShapes
set_option linter.all false
section
variable {M oM E oE R oR k : Nat} {h now : Int} {pin : Nat → Int} {w w' : World}
theorem dpin_in (H : Mm M oM E oE R oR k h now pin w) (j : Nat) (hj : j < k) (n : Int) (hn : 0 ≤ n) (hn9 : n ≤ now) : Calls Try.prog 16 #[.pointer (some ⟨M, oM, none⟩), .int .i64 j, acc 8 n] w fun e w' => e = .returned (res 0 true) ∧ Below w.heap.size (w.setCell ⟨R, oR + j * 2, none⟩ (.int .i64 n)) w' :=
  do_setD H (by omega) j hj 8 n 0 true R (oR + j * 2) _ (H.lt (by omega)).2.2 fun w0 hb => apin_in (H.below (by omega) hb) (by omega) j hj n hn hn9
theorem dpin_late (H : Mm M oM E oE R oR k h now pin w) (j : Nat) (hj : j < k) (n : Int) (hn : 0 ≤ n) (hn9 : now < n) : Calls Try.prog 16 #[.pointer (some ⟨M, oM, none⟩), .int .i64 j, acc 8 n] w fun e w' => e = .returned (res 0 false) ∧ Below w.heap.size w w' :=
  do_keepD H (by omega) j hj 8 n 0 false fun w0 hb => apin_late (H.below (by omega) hb) (by omega) j hj n hn hn9
theorem dunpin (H : Mm M oM E oE R oR k h now pin w) (j : Nat) (hj : j < k) : Calls Try.prog 16 #[.pointer (some ⟨M, oM, none⟩), .int .i64 j, acc 9 0] w fun e w' => e = .returned (res 0 true) ∧ Below w.heap.size (w.setCell ⟨R, oR + j * 2, none⟩ (.int .i64 (-1))) w' :=
  do_set H (by omega) j hj 9 0 0 true R (oR + j * 2) _ (H.lt (by omega)).2.2 fun w0 hb => unpin_any (H.below (by omega) hb) (by omega) j hj
theorem dpinOf (H : Mm M oM E oE R oR k h now pin w) (j : Nat) (hj : j < k) (i : Nat) (hi : i < k) : Calls Try.prog 16 #[.pointer (some ⟨M, oM, none⟩), .int .i64 j, acc 10 i] w fun e w' => e = .returned (res (pin i) false) ∧ Below w.heap.size w w' :=
  do_keepD H (by omega) j hj 10 i (pin i) false fun w0 hb => apinOf_in (H.below (by omega) hb) (by omega) j i hi
theorem dadv_yes (H : Mm M oM E oE R oR k h now pin w) (j : Nat) (hj : j < k) (hn : 0 ≤ now) (hn9 : now < 1073741824) : Calls Try.prog 16 #[.pointer (some ⟨M, oM, none⟩), .int .i64 j, acc 11 now] w fun e w' => e = .returned (res 0 true) ∧ Below w.heap.size (w.setCell ⟨E, oE, none⟩ (.int .i64 (now + 1))) w' :=
  do_setD H (by omega) j hj 11 now 0 true E oE _ (H.lt (by omega)).2.1 fun w0 hb => aadv_yes (H.below (by omega) hb) (by omega) j hn hn9
theorem dadv_no (H : Mm M oM E oE R oR k h now pin w) (j : Nat) (hj : j < k) (n : Int) (hn : (now == n) = false) : Calls Try.prog 16 #[.pointer (some ⟨M, oM, none⟩), .int .i64 j, acc 11 n] w fun e w' => e = .returned (res 0 false) ∧ Below w.heap.size w w' :=
  do_keepD H (by omega) j hj 11 n 0 false fun w0 hb => aadv_no (H.below (by omega) hb) (by omega) j n hn
theorem depoch (H : Mm M oM E oE R oR k h now pin w) (j : Nat) (hj : j < k) : Calls Try.prog 16 #[.pointer (some ⟨M, oM, none⟩), .int .i64 j, acc 7 0] w fun e w' => e = .returned (res now false) ∧ Below w.heap.size w w' :=
  do_keep H (by omega) j hj 7 0 now false fun w0 hb => epoch_any (H.below (by omega) hb) (by omega) j
set_option maxRecDepth 100000 in
set_option maxHeartbeats 400000 in
theorem mnow_any (H : Mm M oM E oE R oR k h now pin w) : Calls Try.prog 18 #[.pointer (some ⟨M, oM, none⟩)] w fun e w' => e = .returned (.int .i64 now) ∧ w' = w := by
  have c1 := H.c1
  have HE := Lib.hid H.ep
  clear H
  go_enter Try.func18, Try.ntmps18
  go_wp2_with (first
    | (go_at_call 12; refine (now_any HE.out).mono ?_; rintro e w1 ⟨rfl, rfl⟩)
    | fail)
  go_ret
  exact ⟨rfl, rfl⟩
end
/-- All of the law's memory: the row at Q tells the pins. -/
structure Te (W : World) (C M oM E oE R oR Q k : Nat) (now : Int) (pin : Nat → Int) (w : World) : Prop where
  tn : Tn W C M oM E oE R oR k (-1) now pin w
  row : ∀ j, j < k → w.cell? ⟨Q, j, none⟩ = some (.int .i64 (pin j))
  frow : ∀ j, j < k → w.frozen? ⟨Q, j, none⟩ = false
  hQ : M < Q ∧ E < Q ∧ R < Q
section
variable {W : World} {C M oM E oE R oR Q k : Nat} {now : Int} {pin : Nat → Int} {w w' : World}
theorem Te.lt (T : Te W C M oM E oE R oR Q k now pin w) (hk : 0 < k) : Q < w.heap.size := World.block_lt_of_cell? _ _ (T.row 0 hk)
theorem Te.keep (T : Te W C M oM E oE R oR Q k now pin w) (hk : 0 < k) (hb : Below w.heap.size w w') : Te W C M oM E oE R oR Q k now pin w' := by
  have l := T.lt hk
  exact ⟨T.tn.keep hk hb, fun j hj => (hb.cell (p := ⟨Q, j, none⟩) l).trans (T.row j hj), fun j hj => (hb.frozen (p := ⟨Q, j, none⟩) l).trans (T.frow j hj), T.hQ⟩
theorem Te.drew (T : Te W C M oM E oE R oR Q k now pin w) : Te W C M oM E oE R oR Q k now pin w.drew := ⟨T.tn.drew, T.row, T.frow, T.hQ⟩
theorem Te.setNow (T : Te W C M oM E oE R oR Q k now pin w) (hk : 0 < k) (n : Int) (hb : Below w.heap.size (w.setCell ⟨E, oE, none⟩ (.int .i64 n)) w') : Te W C M oM E oE R oR Q k n pin w' := by
  obtain ⟨a, b, c, d⟩ := T.tn.hC
  obtain ⟨q1, q2, q3⟩ := T.hQ
  have hb' : Below (w.setCell ⟨E, oE, none⟩ (.int .i64 n)).heap.size (w.setCell ⟨E, oE, none⟩ (.int .i64 n)) w' := hb.mono (by simp)
  exact Te.keep (w := w.setCell ⟨E, oE, none⟩ (.int .i64 n)) ⟨⟨T.tn.mm.setNow n, (World.cell?_setCell_far _ _ _ _ (by show E ≠ C; omega)).trans T.tn.box, T.tn.hC, T.tn.bel.setCell (by show W.heap.size ≤ E; omega) _⟩,
    fun j hj => (World.cell?_setCell_far _ _ _ _ (by show E ≠ Q; omega)).trans (T.row j hj), fun j hj => by rw [World.frozen?_setCell]; exact T.frow j hj, T.hQ⟩ hk hb'
theorem Te.setPin (T : Te W C M oM E oE R oR Q k now pin w) (j : Nat) (hj : j < k) (n : Int) (hb : Below w.heap.size (w.setCell ⟨R, oR + j * 2, none⟩ (.int .i64 n)) w') :
    Te W C M oM E oE R oR Q k now (setPin pin j n) (w'.setCell ⟨Q, j, none⟩ (.int .i64 n)) ∧ w'.cell? ⟨Q, j, none⟩ = some (.int .i64 (pin j)) ∧ w'.frozen? ⟨Q, j, none⟩ = false := by
  obtain ⟨a, b, c, d⟩ := T.tn.hC
  obtain ⟨q1, q2, q3⟩ := T.hQ
  have l := T.lt (by omega)
  have hb' : Below (w.setCell ⟨R, oR + j * 2, none⟩ (.int .i64 n)).heap.size (w.setCell ⟨R, oR + j * 2, none⟩ (.int .i64 n)) w' := hb.mono (by simp)
  have hT : Tn W C M oM E oE R oR k (-1) now (Ytlkanknmjkeagaa.setPin pin j n) w' := Tn.keep (w := w.setCell ⟨R, oR + j * 2, none⟩ (.int .i64 n)) ⟨T.tn.mm.setPin j hj n, (World.cell?_setCell_far _ _ _ _ (by show R ≠ C; omega)).trans T.tn.box, T.tn.hC, T.tn.bel.setCell (by show W.heap.size ≤ R; omega) _⟩ (by omega) hb'
  have hc : ∀ i, w'.cell? ⟨Q, i, none⟩ = w.cell? ⟨Q, i, none⟩ := fun i => (hb.cell (p := ⟨Q, i, none⟩) l).trans (World.cell?_setCell_far _ _ _ _ (by show R ≠ Q; omega))
  have hf : ∀ i, w'.frozen? ⟨Q, i, none⟩ = w.frozen? ⟨Q, i, none⟩ := fun i => (hb.frozen (p := ⟨Q, i, none⟩) l).trans (World.frozen?_setCell _ _ _ _)
  refine ⟨⟨⟨hT.mm.same (Below.heap_setCell _ _ _ _ (by show E ≠ Q; omega)) (Below.heap_setCell _ _ _ _ (by show R ≠ Q; omega)) (Below.heap_setCell _ _ _ _ (by show M ≠ Q; omega)), (World.cell?_setCell_far _ _ _ _ (by show Q ≠ C; omega)).trans hT.box, hT.hC, hT.bel.setCell (by show W.heap.size ≤ Q; omega) _⟩, fun i hi => ?_, fun i hi => by rw [World.frozen?_setCell, hf]; exact T.frow i hi, T.hQ⟩, (hc j).trans (T.row j hj), (hf j).trans (T.frow j hj)⟩
  unfold Ytlkanknmjkeagaa.setPin
  by_cases e : i = j
  · subst e; rw [if_pos rfl]; exact World.cell?_setCell_same _ _ _ ((hc i).trans (T.row i hi))
  · rw [if_neg e]; exact ((World.cell?_setCell_other _ _ _ _ (by simp [Ne.symm e])).trans (hc i)).trans (T.row i hi)
end
attribute [local go_sem ↓] fld1 fld2
set_option maxRecDepth 100000 in
set_option maxHeartbeats 1600000 in
theorem epochs_any (a : Int) (A A' : Option Addr) (len cap len' cap' : Nat) (xs ys : List Int) (W : World) (hx : Reads W W.heap.size 1 A len (xs.map (Value.int .i64))) (hy : Reads W W.heap.size 1 A' len' (ys.map (Value.int .i64))) :
    Calls Try.prog 5 #[.int .i64 a, .slice A len cap, .slice A' len' cap'] W fun e w' => e = .returned (.bool true) ∧ Below W.heap.size W w' := by
  obtain ⟨i0, hi0, hz0, hz1, hz2⟩ := info_parts (show (Try.prog.info? 3).map (fun i => (i.zero, i.size, i.bytes)) = some (some (.int .i64 0), 1, 8) by kernel_rfl)
  obtain ⟨m, hm, hm9⟩ := withinV_nat a 8 (by omega)
  have hm' : withinV a (7 + 1) = m := hm
  have HM := Lib.hid hm'
  clear hm hm'
  obtain ⟨k, hk⟩ : ∃ k, k = m + 1 := ⟨_, rfl⟩
  have hk1 : (1 : Int) + m = k := by omega
  have HK := Lib.hid hk1
  have hk2 : 1 ≤ k := by omega
  have hk9 : k ≤ 8 := by omega
  clear hk hk1
  go_enter Try.func5, Try.ntmps5
  go_wp2_with (first
    | (go_at_call 14; refine (config_any _).mono ?_; rintro e w1 ⟨rfl, hB1⟩; unfold cfg nm)
    | (go_at_call 6; refine (within_any _ 7 (by omega) (by omega) _).mono ?_; rintro e w1 ⟨rfl, rfl⟩; rw [HM.out])
    | (go_at_call 15; rw [HK.out]; refine (new_any k hk2 hk9 _).mono ?_; rintro e w2 ⟨M, oM, E, oE, R, oR, rfl, hMm, hge, hB2⟩
       have hsz : (w1.alloc (Obj.cells #[Value.int .i64 40, Value.int .i64 24, Value.int .i64 8, Value.int .i64 4, Value.int .i64 2, Value.int .i64 k, Value.int .i64 8, Value.int .i64 1] 40)).heap.size = w1.heap.size + 1 := by simp
       rw [hsz] at hge hB2
       have hbx : w2.cell? ⟨w1.heap.size, 5, none⟩ = some (.int .i64 k) := (hB2.cell (p := ⟨w1.heap.size, 5, none⟩) (by show w1.heap.size < w1.heap.size + 1; omega)).trans (World.cell?_alloc_at _ _ _ _ rfl)
       clear hsz)
    | (refine wpList_make_full _ rfl (.tmp 34) (.tmp 34) 28 rfl w2.heap.size 3 i0 _ 1 Try.underlying28 hi0 hz0 hz1 .i64 .i64 _ _ k rfl rfl rfl rfl (by rw [hz2]; omega) (by unfold maxLen; omega) (Nat.le_refl _) ?_
       intro w3 hown hg1)
    | fail)
  generalize hC : w1.heap.size = C at *
  have hsz : ∀ o, (w1.alloc o).heap.size = C + 1 := fun o => by simp [hC]
  have hT0 : Tn W C M oM E oE R oR k (-1) 0 (fun _ => -1) w2 := ⟨hMm, hbx, ⟨by have := hB1.size; omega, by omega, by omega, by omega⟩, (hB1.alloc hB1.size _).trans (hB2.mono (by have := hB1.size; omega))⟩
  have hlt := hMm.lt hk2
  have hb3 : Below w2.heap.size w2 w3 := (Below.refl _ _).grown hg1 (Nat.le_refl _) (by simp)
  have hT1 := hT0.keep hk2 hb3
  have hr0 : ∀ j, j < k → w3.cell? ⟨w2.heap.size, j, none⟩ = some (.int .i64 0) := fun j hj => by
    rw [World.ownsRow.cellAt hown j (by omega)]
    unfold madeCells
    simp [hj, Value.cells, Nat.mod_one]
  have hfr : ∀ j, w3.frozen? ⟨w2.heap.size, j, none⟩ = false := fun j => World.ownsRow.frozenAt hown j
  generalize hQ : w2.heap.size = Q at *
  clear hMm hge hB2 hbx hB1 hsz hC hown hg1 hT0 hb3 hQ
  have HR0 := Lib.hid hr0
  have HFR := Lib.hid hfr
  clear hr0 hfr
  go_loopw [38] (fun i wr => ∃ j : Nat, j ≤ k ∧ i = .int .i64 j ∧ Hid (Tn W C M oM E oE R oR k (-1) 0 (fun _ => -1) wr ∧ (∀ i, i < k → ∃ n, wr.cell? ⟨Q, i, none⟩ = some (.int .i64 n) ∧ (i < j → n = -1)) ∧ (∀ i, i < k → wr.frozen? ⟨Q, i, none⟩ = false))) (fun i _ => k - (intOf i).toNat)
  case atStart => exact ⟨0, by omega, rfl, Lib.hid ⟨hT1, fun i hi => ⟨0, HR0.out i hi, by omega⟩, fun i _ => HFR.out i⟩⟩
  case round =>
    obtain ⟨j, hj, rfl, HS⟩ := hrel
    by_cases hjk : j < k
    · obtain ⟨hS1, hS3, hS4⟩ := HS.out
      obtain ⟨n, hn, _⟩ := hS3 j hjk
      have hf := hS4 j hjk
      have H3 := Lib.hid hS3
      have H4 := Lib.hid hS4
      clear hS3 hS4
      have hj1 : (j : Int) < k := by omega
      have hj0 : (0 : Int) ≤ j := by omega
      go_wp2
      go_roundw
      case rel =>
        obtain ⟨x1, x2, x3, x4⟩ := hS1.hC
        refine ⟨j + 1, by omega, by go_num, Lib.hid ⟨⟨hS1.mm.same (Below.heap_setCell _ _ _ _ (by show E ≠ Q; omega)) (Below.heap_setCell _ _ _ _ (by show R ≠ Q; omega)) (Below.heap_setCell _ _ _ _ (by show M ≠ Q; omega)), (World.cell?_setCell_far _ _ _ _ (by show Q ≠ C; omega)).trans hS1.box, hS1.hC, hS1.bel.setCell (by show W.heap.size ≤ Q; omega) _⟩, fun i hi => ?_, fun i hi => by rw [World.frozen?_setCell]; exact H4.out i hi⟩⟩
        obtain ⟨m, hm, hm1⟩ := H3.out i hi
        by_cases e : i = j
        · subst e; exact ⟨-1, World.cell?_setCell_same _ _ _ hm, fun _ => rfl⟩
        · exact ⟨m, (World.cell?_setCell_other _ _ _ _ (by simp [Ne.symm e])).trans hm, fun h => hm1 (by omega)⟩
      case measure => simp only [intOf]; omega
    · obtain rfl : j = k := by omega
      have hS : Te W C M oM E oE R oR Q j 0 (fun _ => -1) wr := ⟨HS.out.1, fun i hi => by obtain ⟨m, hm, hm1⟩ := HS.out.2.1 i hi; rw [hm, hm1 hi], HS.out.2.2, hlt⟩
      clear HS HR0 HFR hT1
      generalize hkk : j = k at *
      have HKK := Lib.hid hkk
      clear hkk
      go_wp2
      go_loopw [12, 13] (fun n i wr => ∃ (j n' : Nat) (pin : Nat → Int), i = .int .i64 j ∧ n = .int .i64 n' ∧ n' ≤ j ∧ j ≤ 60 ∧ Te W C M oM E oE R oR Q k n' pin wr) (fun _ i _ => 60 - (intOf i).toNat)
      case atStart => exact ⟨0, 0, _, rfl, rfl, by omega, by omega, hS⟩
      case round =>
        clear hS
        obtain ⟨j, n, pin, rfl, rfl, hnj, hj, hT⟩ := hrel
        by_cases hin : j < len ∧ j < len' ∧ j < 60
        · obtain ⟨g1, g2, g3⟩ := hin
          obtain ⟨ad, rfl, hab, hc⟩ := ints_get hx g1
          obtain ⟨bd, rfl, hbb, hd⟩ := ints_get hy g2
          have hc0 : wr.cell? (ad.add j) = some (.int .i64 (xs[j]?.getD 0)) := (hT.tn.bel.cell (by rw [block_of_add]; exact hab)).trans hc
          have hd0 : wr.cell? (bd.add j) = some (.int .i64 (ys[j]?.getD 0)) := (hT.tn.bel.cell (by rw [block_of_add]; exact hbb)).trans hd
          have hbox := hT.tn.box
          clear hc hd
          generalize xs[j]?.getD 0 = x at *
          generalize ys[j]?.getD 0 = y at *
          obtain ⟨c, hcl, hck⟩ := withinV_nat x k (by omega)
          have hcl' : withinV x ((k : Int) - 1 + 1) = c := by rw [show (k : Int) - 1 + 1 = k from by omega]; exact hcl
          have HC := Lib.hid hcl'
          clear hcl hcl'
          obtain ⟨q, hq, hq9⟩ := withinV_nat y 4 (by omega)
          have hq' : withinV y (3 + 1) = q := hq
          have HQ := Lib.hid hq'
          clear hq hq'
          have hck1 : (c : Int) < k := by omega
          have hck0 : (0 : Int) ≤ c := by omega
          have HW : Hid (IntKind.i64.wrap ((k : Int) - 1) = (k : Int) - 1) := Lib.hid (IntWalk.i64_in _ (by omega))
          have hTd := hT.drew
          have hq3 : q = 0 ∨ q = 1 ∨ q = 2 ∨ q = 3 := by omega
          have F1 : Hid True := trivial
          go_wp2
          go_region_held3 (fun w' => w'.cell? (ad.add j) = some (.int .i64 x) ∧ w'.cell? ⟨C, 5, none⟩ = some (.int .i64 k) ∧ w'.cell? (bd.add j) = some (.int .i64 y)) (go_keep) (first | (go_at_call 6; rw [HW.out]; refine (within_any _ _ (by omega) (by omega) _).mono ?_; rintro e w' ⟨rfl, rfl⟩; rw [HC.out]))
          all_goals
            rcases hq3 with rfl | rfl | rfl | rfl
            · go_wp2_with (first
                | (go_at_call 6; refine (within_any _ 3 (by omega) (by omega) _).mono ?_; rintro e w4 ⟨rfl, rfl⟩; rw [HQ.out])
                | (go_at_call 16; refine (dpin_in hTd.tn.mm c hck n (by omega) (by omega)).mono ?_; rintro e w5 ⟨rfl, hb5⟩; obtain ⟨hT6, hq5, hf5⟩ := hTd.setPin c hck n hb5; unfold res)
                | fail)
              go_loopw [128] (fun i wr => ∃ i' : Nat, i' ≤ k ∧ i = .int .i64 i' ∧ Te W C M oM E oE R oR Q k n (setPin pin c n) wr) (fun i _ => k - (intOf i).toNat)
              case atStart => exact ⟨0, by omega, rfl, hT6⟩
              case round =>
                obtain ⟨z, hz, rfl, hT7⟩ := hrel
                by_cases hzk : z < k
                · have hz1 : (z : Int) < k := by omega
                  have hz0 : (0 : Int) ≤ z := by omega
                  have hcz := hT7.row z hzk
                  have hlq := hT7.lt hk2
                  go_wp2
                  go_region_held3 (fun w' => w'.cell? ⟨Q, z, none⟩ = some (.int .i64 ((setPin pin c n) z))) (first | (go_keep; done) | exact (hb8.cell (p := ⟨Q, z, none⟩) hlq).trans hcz) (first | (go_at_call 16; refine (dpinOf hT7.drew.tn.mm c hck z hzk).mono ?_; rintro e w8 ⟨rfl, hb8⟩; unfold res))
                  all_goals
                    go_wp2
                    go_roundw
                    case rel => exact ⟨z + 1, by omega, by go_num, hT7.drew.keep hk2 hb8⟩
                    case measure => simp only [intOf]; omega
                · obtain rfl : z = k := by omega
                  go_wp2_with (first
                    | (go_at_call 16; refine (depoch hT7.tn.mm c hck).mono ?_; rintro e w8 ⟨rfl, hb8⟩; have hT8 := hT7.keep hk2 hb8; unfold res)
                    | (go_at_call 18; refine (mnow_any hT8.tn.mm).mono ?_; rintro e w9 ⟨rfl, rfl⟩)
                    | fail)
                  go_roundw
                  case rel => exact ⟨j + 1, n, (setPin pin c n), by go_num, by rfl, by omega, by omega, hT8⟩
                  case measure => simp only [intOf]; omega
            · go_wp2_with (first
                | (go_at_call 6; refine (within_any _ 3 (by omega) (by omega) _).mono ?_; rintro e w4 ⟨rfl, rfl⟩; rw [HQ.out])
                | (go_at_call 16; refine (dunpin hTd.tn.mm c hck).mono ?_; rintro e w5 ⟨rfl, hb5⟩; obtain ⟨hT6, hq5, hf5⟩ := hTd.setPin c hck (-1) hb5; unfold res)
                | fail)
              go_loopw [128] (fun i wr => ∃ i' : Nat, i' ≤ k ∧ i = .int .i64 i' ∧ Te W C M oM E oE R oR Q k n (setPin pin c (-1)) wr) (fun i _ => k - (intOf i).toNat)
              case atStart => exact ⟨0, by omega, rfl, hT6⟩
              case round =>
                obtain ⟨z, hz, rfl, hT7⟩ := hrel
                by_cases hzk : z < k
                · have hz1 : (z : Int) < k := by omega
                  have hz0 : (0 : Int) ≤ z := by omega
                  have hcz := hT7.row z hzk
                  have hlq := hT7.lt hk2
                  go_wp2
                  go_region_held3 (fun w' => w'.cell? ⟨Q, z, none⟩ = some (.int .i64 ((setPin pin c (-1)) z))) (first | (go_keep; done) | exact (hb8.cell (p := ⟨Q, z, none⟩) hlq).trans hcz) (first | (go_at_call 16; refine (dpinOf hT7.drew.tn.mm c hck z hzk).mono ?_; rintro e w8 ⟨rfl, hb8⟩; unfold res))
                  all_goals
                    go_wp2
                    go_roundw
                    case rel => exact ⟨z + 1, by omega, by go_num, hT7.drew.keep hk2 hb8⟩
                    case measure => simp only [intOf]; omega
                · obtain rfl : z = k := by omega
                  go_wp2_with (first
                    | (go_at_call 16; refine (depoch hT7.tn.mm c hck).mono ?_; rintro e w8 ⟨rfl, hb8⟩; have hT8 := hT7.keep hk2 hb8; unfold res)
                    | (go_at_call 18; refine (mnow_any hT8.tn.mm).mono ?_; rintro e w9 ⟨rfl, rfl⟩)
                    | fail)
                  go_roundw
                  case rel => exact ⟨j + 1, n, (setPin pin c (-1)), by go_num, by rfl, by omega, by omega, hT8⟩
                  case measure => simp only [intOf]; omega
            · have hne : (((n : Int) + 1) == (n : Int)) = false := by simp <;> omega
              have HNE := Lib.hid hne
              clear hne
              go_wp2_with (first
                | (go_at_call 6; refine (within_any _ 3 (by omega) (by omega) _).mono ?_; rintro e w4 ⟨rfl, rfl⟩; rw [HQ.out])
                | (go_at_call 16; clear F1; refine (dadv_yes hTd.tn.mm c hck (by omega) (by omega)).mono ?_; rintro e w5 ⟨rfl, hb5⟩; have hT5 := hTd.setNow hk2 _ hb5; unfold res)
                | (go_at_call 16; refine (dadv_no hT5.tn.mm c hck n HNE.out).mono ?_; rintro e w5 ⟨rfl, hb6⟩; have hT6 := hT5.keep hk2 hb6; unfold res)
                | fail)
              go_loopw [128] (fun i wr => ∃ i' : Nat, i' ≤ k ∧ i = .int .i64 i' ∧ Te W C M oM E oE R oR Q k (n + 1) pin wr) (fun i _ => k - (intOf i).toNat)
              case atStart => exact ⟨0, by omega, rfl, hT6⟩
              case round =>
                obtain ⟨z, hz, rfl, hT7⟩ := hrel
                by_cases hzk : z < k
                · have hz1 : (z : Int) < k := by omega
                  have hz0 : (0 : Int) ≤ z := by omega
                  have hcz := hT7.row z hzk
                  have hlq := hT7.lt hk2
                  go_wp2
                  go_region_held3 (fun w' => w'.cell? ⟨Q, z, none⟩ = some (.int .i64 (pin z))) (first | (go_keep; done) | exact (hb8.cell (p := ⟨Q, z, none⟩) hlq).trans hcz) (first | (go_at_call 16; refine (dpinOf hT7.drew.tn.mm c hck z hzk).mono ?_; rintro e w8 ⟨rfl, hb8⟩; unfold res))
                  all_goals
                    go_wp2
                    go_roundw
                    case rel => exact ⟨z + 1, by omega, by go_num, hT7.drew.keep hk2 hb8⟩
                    case measure => simp only [intOf]; omega
                · obtain rfl : z = k := by omega
                  go_wp2_with (first
                    | (go_at_call 16; refine (depoch hT7.tn.mm c hck).mono ?_; rintro e w8 ⟨rfl, hb8⟩; have hT8 := hT7.keep hk2 hb8; unfold res)
                    | (go_at_call 18; refine (mnow_any hT8.tn.mm).mono ?_; rintro e w9 ⟨rfl, rfl⟩)
                    | fail)
                  go_roundw
                  case rel => exact ⟨j + 1, (n + 1), pin, by go_num, by go_num, by omega, by omega, hT8⟩
                  case measure => simp only [intOf]; omega
            · go_wp2_with (first
                | (go_at_call 6; refine (within_any _ 3 (by omega) (by omega) _).mono ?_; rintro e w4 ⟨rfl, rfl⟩; rw [HQ.out])
                | (go_at_call 16; refine (dpin_late hTd.tn.mm c hck _ (by omega) (by omega)).mono ?_; rintro e w5 ⟨rfl, hb5⟩; have hT6 := hTd.keep hk2 hb5; unfold res)
                | fail)
              go_loopw [128] (fun i wr => ∃ i' : Nat, i' ≤ k ∧ i = .int .i64 i' ∧ Te W C M oM E oE R oR Q k n pin wr) (fun i _ => k - (intOf i).toNat)
              case atStart => exact ⟨0, by omega, rfl, hT6⟩
              case round =>
                obtain ⟨z, hz, rfl, hT7⟩ := hrel
                by_cases hzk : z < k
                · have hz1 : (z : Int) < k := by omega
                  have hz0 : (0 : Int) ≤ z := by omega
                  have hcz := hT7.row z hzk
                  have hlq := hT7.lt hk2
                  go_wp2
                  go_region_held3 (fun w' => w'.cell? ⟨Q, z, none⟩ = some (.int .i64 (pin z))) (first | (go_keep; done) | exact (hb8.cell (p := ⟨Q, z, none⟩) hlq).trans hcz) (first | (go_at_call 16; refine (dpinOf hT7.drew.tn.mm c hck z hzk).mono ?_; rintro e w8 ⟨rfl, hb8⟩; unfold res))
                  all_goals
                    go_wp2
                    go_roundw
                    case rel => exact ⟨z + 1, by omega, by go_num, hT7.drew.keep hk2 hb8⟩
                    case measure => simp only [intOf]; omega
                · obtain rfl : z = k := by omega
                  go_wp2_with (first
                    | (go_at_call 16; refine (depoch hT7.tn.mm c hck).mono ?_; rintro e w8 ⟨rfl, hb8⟩; have hT8 := hT7.keep hk2 hb8; unfold res)
                    | (go_at_call 18; refine (mnow_any hT8.tn.mm).mono ?_; rintro e w9 ⟨rfl, rfl⟩)
                    | fail)
                  go_roundw
                  case rel => exact ⟨j + 1, n, pin, by go_num, by rfl, by omega, by omega, hT8⟩
                  case measure => simp only [intOf]; omega
        · have HI := Lib.hid hin
          clear hin
          go_wp2_with (first
            | (go_at_call 17; refine (memRuns_any _).mono ?_; rintro e w9 ⟨rfl, hb9⟩)
            | fail)
          all_goals first
            | (exfalso; have := HI.out; omega)
            | (go_ret; exact ⟨rfl, hT.tn.bel.trans (hb9.mono hT.tn.bel.size)⟩)
end Go.Proofs.Ytlkanknmjkeagaa
