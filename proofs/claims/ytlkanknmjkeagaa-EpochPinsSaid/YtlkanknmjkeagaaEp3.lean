/-
  The law EpochPins at any calls: the walk; no condition.
-/
import Derived.Test.YtlkanknmjkeagaaEp2
import Derived.Test.YtlkanknmjkeagaaBase
import Derived.Test.YtlkanknmjkeagaaFr
import Derived.Test.YtlkanknmjkeagaaRuns
namespace Go.Proofs.Ytlkanknmjkeagaa
open Go.RowKit Go.WideShapes Go.ChangeShapes
set_option linter.all false
/-- All of EpochPins' memory: the epochs, and the row at Q that tells the pins. -/
structure PinSt (W : World) (E R Q k : Nat) (now : Int) (pin : Nat → Int) (w : World) : Prop where
  ep : Ep E 0 R 0 k now pin w
  row : ∀ j, j < k → w.cell? ⟨Q, j, none⟩ = some (.int .i64 (pin j))
  frow : ∀ j, j < k → w.frozen? ⟨Q, j, none⟩ = false
  hE : W.heap.size ≤ R ∧ R < E ∧ E < Q
  bel : Below W.heap.size W w
theorem PinSt.set {W : World} {E R Q k : Nat} {now : Int} {pin : Nat → Int} {w : World} (h : PinSt W E R Q k now pin w) (j : Nat) (hj : j < k) (n : Int) :
    PinSt W E R Q k now (setPin pin j n) ((w.setCell ⟨R, 0 + j * 2, none⟩ (.int .i64 n)).setCell ⟨Q, j, none⟩ (.int .i64 n)) := by
  obtain ⟨a, b, c⟩ := h.hE
  have h1 := h.ep.setPin j hj n
  have hc : ∀ i, (w.setCell ⟨R, 0 + j * 2, none⟩ (.int .i64 n)).cell? ⟨Q, i, none⟩ = w.cell? ⟨Q, i, none⟩ := fun i => World.cell?_setCell_far _ _ _ _ (by show R ≠ Q; omega)
  refine ⟨h1.same (Below.heap_setCell _ _ _ _ (by show E ≠ Q; omega)) (Below.heap_setCell _ _ _ _ (by show R ≠ Q; omega)), fun i hi => ?_, fun i hi => by rw [World.frozen?_setCell, World.frozen?_setCell]; exact h.frow i hi, h.hE, (h.bel.setCell a _).setCell (by show W.heap.size ≤ Q; omega) _⟩
  unfold setPin
  by_cases e : i = j
  · subst e; rw [if_pos rfl]; exact World.cell?_setCell_same _ _ _ ((hc i).trans (h.row i hi))
  · rw [if_neg e]; exact ((World.cell?_setCell_other _ _ _ _ (by simp [Ne.symm e])).trans (hc i)).trans (h.row i hi)
theorem PinSt.setNow {W : World} {E R Q k : Nat} {now : Int} {pin : Nat → Int} {w : World} (h : PinSt W E R Q k now pin w) (n : Int) :
    PinSt W E R Q k n pin (w.setCell ⟨E, 0, none⟩ (.int .i64 n)) := by
  obtain ⟨a, b, c⟩ := h.hE
  exact ⟨h.ep.setNow n, fun i hi => (World.cell?_setCell_far _ _ _ _ (by show E ≠ Q; omega)).trans (h.row i hi), fun i hi => by rw [World.frozen?_setCell]; exact h.frow i hi, h.hE, h.bel.setCell (by show W.heap.size ≤ E; omega) _⟩
theorem PinSt.drew {W : World} {E R Q k : Nat} {now : Int} {pin : Nat → Int} {w : World} (h : PinSt W E R Q k now pin w)  : PinSt W E R Q k now pin w.drew :=
  ⟨⟨h.ep.c0, h.ep.f0, h.ep.c2, h.ep.pins, h.ep.fpin, h.ep.ne⟩, h.row, h.frow, h.hE, ⟨h.bel.os, h.bel.tape, h.bel.output, h.bel.size, h.bel.block⟩⟩
set_option maxRecDepth 100000 in
set_option maxHeartbeats 1600000 in
theorem pins_any (a : Int) (A : Option Addr) (len cap : Nat) (F : Nat → Nat → Int) (W : World) (hx : Recs W A len 3 F) :
    Calls Try.prog 3 #[.int .i64 a, .slice A len cap] W fun e w' => e = .returned (.bool true) ∧ Below W.heap.size W w' := by
  obtain ⟨i0, hi0, hz0, hz1, hz2⟩ := info_parts (show (Try.prog.info? 3).map (fun i => (i.zero, i.size, i.bytes)) = some (some (.int .i64 0), 1, 8) by kernel_rfl)
  obtain ⟨m, hm, hm9⟩ := withinV_nat a 8 (by omega)
  have hm' : withinV a (7 + 1) = m := hm
  have HM := Lib.hid hm'
  clear hm hm'
  obtain ⟨k, hk⟩ : ∃ k, k = m + 1 := ⟨_, rfl⟩
  have hk1 : (1 : Int) + m = k := by omega
  have HK := Lib.hid hk1
  have hk2 : 1 ≤ k := by omega
  have hk9 : k ≤ 8 := by omega
  clear hk hk1
  go_enter Try.func3, Try.ntmps3
  go_wp2_with (first
    | (go_at_call 6; refine (within_any _ 7 (by omega) (by omega) _).mono ?_; rintro e w1 ⟨rfl, rfl⟩; rw [HM.out])
    | (go_at_call 7; rw [HK.out]; refine (eNew_any k 8 _ hk2 hk9 (by omega) (by omega)).mono ?_; rintro e w1 ⟨E, rfl, hE, hRE, hB⟩)
    | (refine wpList_make_full _ rfl (.tmp 29) (.tmp 29) 28 rfl w1.heap.size 3 i0 _ 1 Try.underlying28 hi0 hz0 hz1 .i64 .i64 _ _ k rfl rfl rfl rfl (by rw [hz2]; omega) (by unfold maxLen; omega) (Nat.le_refl _) ?_
       intro w2 hown hg1)
    | fail)
  have hB2 : Below W.heap.size W w2 := hB.grown hg1 hB.size (by simp)
  have hE2 : Ep E 0 W.heap.size 0 k 0 (fun _ => -1) w2 := hE.same (hg1.block _ (World.block_lt_of_cell? _ _ hE.c0) (by simp)) (hg1.block _ (World.block_lt_of_cell? _ _ (hE.pins 0 hk2)) (by simp))
  have hlE : E < w1.heap.size := World.block_lt_of_cell? _ _ hE.c0
  have hr0 : ∀ j, j < k → w2.cell? ⟨w1.heap.size, j, none⟩ = some (.int .i64 0) := fun j hj => by
    rw [World.ownsRow.cellAt hown j (by omega)]
    unfold madeCells
    simp [hj, Value.cells, Nat.mod_one]
  have hfr : ∀ j, w2.frozen? ⟨w1.heap.size, j, none⟩ = false := fun j => World.ownsRow.frozenAt hown j
  generalize hQ : w1.heap.size = Q at *
  clear hown hg1 hQ hE hB
  have HR0 := Lib.hid hr0
  have HFR := Lib.hid hfr
  clear hr0 hfr
  go_loopw [33] (fun i wr => ∃ j : Nat, j ≤ k ∧ i = .int .i64 j ∧ Hid (Ep E 0 W.heap.size 0 k 0 (fun _ => -1) wr ∧ Below W.heap.size W wr ∧ (∀ i, i < k → ∃ n, wr.cell? ⟨Q, i, none⟩ = some (.int .i64 n) ∧ (i < j → n = -1)) ∧ (∀ i, i < k → wr.frozen? ⟨Q, i, none⟩ = false))) (fun i _ => k - (intOf i).toNat)
  case atStart => exact ⟨0, by omega, rfl, Lib.hid ⟨hE2, hB2, fun i hi => ⟨0, HR0.out i hi, by omega⟩, fun i _ => HFR.out i⟩⟩
  case round =>
    obtain ⟨j, hj, rfl, HS⟩ := hrel
    by_cases hjk : j < k
    · obtain ⟨hS1, hS2, hS3, hS4⟩ := HS.out
      obtain ⟨n, hn, _⟩ := hS3 j hjk
      have hf := hS4 j hjk
      have H3 := Lib.hid hS3
      have H4 := Lib.hid hS4
      clear hS3 hS4
      have hj1 : (j : Int) < k := by omega
      have hj0 : (0 : Int) ≤ j := by omega
      go_wp2
      go_roundw
      case rel =>
        refine ⟨j + 1, by omega, by go_num, Lib.hid ⟨hS1.same (Below.heap_setCell _ _ _ _ (by show E ≠ Q; omega)) (Below.heap_setCell _ _ _ _ (by show W.heap.size ≠ Q; omega)), hS2.setCell (by show W.heap.size ≤ Q; omega) _, fun i hi => ?_, fun i hi => by rw [World.frozen?_setCell]; exact H4.out i hi⟩⟩
        obtain ⟨m, hm, hm1⟩ := H3.out i hi
        by_cases e : i = j
        · subst e; exact ⟨-1, World.cell?_setCell_same _ _ _ hm, fun _ => rfl⟩
        · exact ⟨m, (World.cell?_setCell_other _ _ _ _ (by simp [Ne.symm e])).trans hm, fun h => hm1 (by omega)⟩
      case measure => simp only [intOf]; omega
    · obtain rfl : j = k := by omega
      have hS : PinSt W E W.heap.size Q j 0 (fun _ => -1) wr := ⟨HS.out.1, fun i hi => by obtain ⟨m, hm, hm1⟩ := HS.out.2.2.1 i hi; rw [hm, hm1 hi], HS.out.2.2.2, ⟨Nat.le_refl _, hRE, hlE⟩, HS.out.2.1⟩
      clear HS HR0 HFR hE2 hB2
      generalize hkk : j = k at *
      have HKK := Lib.hid hkk
      clear hkk
      go_wp2
      go_loopw [10, 11] (fun n i wr => ∃ (j n' : Nat) (pin : Nat → Int), i = .int .i64 j ∧ n = .int .i64 n' ∧ n' ≤ j ∧ j ≤ 80 ∧ PinSt W E W.heap.size Q k n' pin wr) (fun _ i _ => 80 - (intOf i).toNat)
      case atStart => exact ⟨0, 0, _, rfl, rfl, by omega, by omega, hS⟩
      case round =>
        clear hS
        obtain ⟨j, n, pin, rfl, rfl, hnj, hj, hS⟩ := hrel
        by_cases hin : j < len ∧ j < 80
        · obtain ⟨g1, g2⟩ := hin
          obtain ⟨ad, rfl, hab, hc⟩ := hx j g1
          have hc0 : wr.cell? (ad.add (j * 3)) = some (.int .i64 (F j 0)) := (hS.bel.cell (by rw [block_of_add]; exact hab)).trans (hc 0 (by omega))
          have hc1 : wr.cell? ⟨(ad.add (j * 3)).block, (ad.add (j * 3)).off + 1, none⟩ = some (.int .i64 (F j 1)) := by
            have e : (⟨(ad.add (j * 3)).block, (ad.add (j * 3)).off + 1, none⟩ : Addr) = ad.add (j * 3 + 1) := by rw [← add_of_add]; rfl
            rw [e]; exact (hS.bel.cell (by rw [block_of_add]; exact hab)).trans (hc 1 (by omega))
          have hc2 : wr.cell? ⟨(ad.add (j * 3)).block, (ad.add (j * 3)).off + 2, none⟩ = some (.int .i64 (F j 2)) := by
            have e : (⟨(ad.add (j * 3)).block, (ad.add (j * 3)).off + 2, none⟩ : Addr) = ad.add (j * 3 + 2) := by rw [← add_of_add]; rfl
            rw [e]; exact (hS.bel.cell (by rw [block_of_add]; exact hab)).trans (hc 2 (by omega))
          clear hc
          obtain ⟨c, hcl, hck⟩ := withinV_nat (F j 1) k (by omega)
          have hcl' : withinV (F j 1) ((k : Int) - 1 + 1) = c := by rw [show (k : Int) - 1 + 1 = k from by omega]; exact hcl
          have HC := Lib.hid hcl'
          clear hcl hcl'
          have hck1 : (c : Int) < k := by omega
          have hck0 : (0 : Int) ≤ c := by omega
          have hcr := hS.row c hck
          have hcf := hS.frow c hck
          obtain ⟨q, hq, hq9⟩ := withinV_nat (F j 0) 3 (by omega)
          have hq' : withinV (F j 0) (2 + 1) = q := hq
          clear hq
          have hq3 : q = 0 ∨ q = 1 ∨ q = 2 := by omega
          have F1 : Hid True := trivial
          have F2 : Hid True := trivial
          rcases hq3 with rfl | rfl | rfl
          · have HQ := Lib.hid hq'
            clear hq'
            obtain ⟨v, hv, hv9⟩ := withinV_nat (F j 2) (n + 2) (by omega)
            have hv' : withinV (F j 2) ((n : Int) + 1 + 1) = v := by rw [show (n : Int) + 1 + 1 = ((n + 2 : Nat) : Int) from by omega]; exact hv
            have HV := Lib.hid hv'
            clear hv hv'
            by_cases hvn : v ≤ n
            · have hvd : decide ((v : Int) ≤ n) = true := decide_eq_true (by omega)
              have hvd2 : (v : Int) ≤ n := by omega
              have hT := hS.set c hck v
              go_wp2_with (first
                | (go_at_call 6; clear F1; refine (within_any _ _ (by omega) (by omega) _).mono ?_; rintro e w1 ⟨rfl, rfl⟩; rw [HC.out])
                | (go_at_call 6; clear F2; refine (within_any _ _ (by omega) (by omega) _).mono ?_; rintro e w1 ⟨rfl, rfl⟩; rw [HQ.out])
                | (go_at_call 6; refine (within_any _ _ (by omega) (by omega) _).mono ?_; rintro e w1 ⟨rfl, rfl⟩; rw [HV.out])
                | (go_at_call 8; refine (pin_in hS.ep c hck v (by omega) (by omega)).mono ?_; rintro e w1 ⟨rfl, rfl⟩)
                | fail)
              go_loopw [114] (fun i wr => ∃ i' : Nat, i' ≤ k ∧ i = .int .i64 i' ∧ PinSt W E W.heap.size Q k n (setPin pin c v) wr) (fun i _ => k - (intOf i).toNat)
              case atStart => exact ⟨0, by omega, rfl, by simpa only [Nat.zero_add] using hT⟩
              case round =>
                obtain ⟨z, hz, rfl, hT2⟩ := hrel
                by_cases hzk : z < k
                · have hz1 : (z : Int) < k := by omega
                  have hz0 : (0 : Int) ≤ z := by omega
                  have hcz := hT2.row z hzk
                  go_wp2
                  go_region_held3 (fun w' => w'.cell? ⟨Q, z, none⟩ = some (.int .i64 ((setPin pin c v) z))) (go_keep) (first | (go_at_call 11; refine (pinOf_in (w := _) hT2.ep.drew z hzk).mono ?_; rintro e w' ⟨rfl, rfl⟩))
                  all_goals go_wp2
                  go_roundw
                  case rel => exact ⟨z + 1, by omega, by go_num, hT2.drew⟩
                  case measure => simp only [intOf]; omega
                · obtain rfl : z = k := by omega
                  go_wp2
                  go_roundw
                  case rel => exact ⟨j + 1, n, (setPin pin c v), by go_num, by rfl, by omega, by omega, hT2⟩
                  case measure => simp only [intOf]; omega
            · have hvd : decide ((v : Int) ≤ n) = false := decide_eq_false (by omega)
              have hvd2 : ¬ (v : Int) ≤ n := by omega
              have hT := hS
              go_wp2_with (first
                | (go_at_call 6; clear F1; refine (within_any _ _ (by omega) (by omega) _).mono ?_; rintro e w1 ⟨rfl, rfl⟩; rw [HC.out])
                | (go_at_call 6; clear F2; refine (within_any _ _ (by omega) (by omega) _).mono ?_; rintro e w1 ⟨rfl, rfl⟩; rw [HQ.out])
                | (go_at_call 6; refine (within_any _ _ (by omega) (by omega) _).mono ?_; rintro e w1 ⟨rfl, rfl⟩; rw [HV.out])
                | (go_at_call 8; refine (pin_late hS.ep c hck v (by omega) (by omega)).mono ?_; rintro e w1 ⟨rfl, rfl⟩)
                | fail)
              go_loopw [114] (fun i wr => ∃ i' : Nat, i' ≤ k ∧ i = .int .i64 i' ∧ PinSt W E W.heap.size Q k n pin wr) (fun i _ => k - (intOf i).toNat)
              case atStart => exact ⟨0, by omega, rfl, by simpa only [Nat.zero_add] using hT⟩
              case round =>
                obtain ⟨z, hz, rfl, hT2⟩ := hrel
                by_cases hzk : z < k
                · have hz1 : (z : Int) < k := by omega
                  have hz0 : (0 : Int) ≤ z := by omega
                  have hcz := hT2.row z hzk
                  go_wp2
                  go_region_held3 (fun w' => w'.cell? ⟨Q, z, none⟩ = some (.int .i64 (pin z))) (go_keep) (first | (go_at_call 11; refine (pinOf_in (w := _) hT2.ep.drew z hzk).mono ?_; rintro e w' ⟨rfl, rfl⟩))
                  all_goals go_wp2
                  go_roundw
                  case rel => exact ⟨z + 1, by omega, by go_num, hT2.drew⟩
                  case measure => simp only [intOf]; omega
                · obtain rfl : z = k := by omega
                  go_wp2
                  go_roundw
                  case rel => exact ⟨j + 1, n, pin, by go_num, by rfl, by omega, by omega, hT2⟩
                  case measure => simp only [intOf]; omega
          · have HQ := Lib.hid hq'
            clear hq'
            have hT := hS.set c hck (-1)
            go_wp2_with (first
              | (go_at_call 6; clear F1; refine (within_any _ _ (by omega) (by omega) _).mono ?_; rintro e w1 ⟨rfl, rfl⟩; rw [HC.out])
              | (go_at_call 6; clear F2; refine (within_any _ _ (by omega) (by omega) _).mono ?_; rintro e w1 ⟨rfl, rfl⟩; rw [HQ.out])
              | (go_at_call 9; refine (unpin_in hS.ep c hck).mono ?_; rintro e w1 ⟨rfl, rfl⟩)
              | fail)
            go_loopw [114] (fun i wr => ∃ i' : Nat, i' ≤ k ∧ i = .int .i64 i' ∧ PinSt W E W.heap.size Q k n (setPin pin c (-1)) wr) (fun i _ => k - (intOf i).toNat)
            case atStart => exact ⟨0, by omega, rfl, by simpa only [Nat.zero_add] using hT⟩
            case round =>
              obtain ⟨z, hz, rfl, hT2⟩ := hrel
              by_cases hzk : z < k
              · have hz1 : (z : Int) < k := by omega
                have hz0 : (0 : Int) ≤ z := by omega
                have hcz := hT2.row z hzk
                go_wp2
                go_region_held3 (fun w' => w'.cell? ⟨Q, z, none⟩ = some (.int .i64 ((setPin pin c (-1)) z))) (go_keep) (first | (go_at_call 11; refine (pinOf_in (w := _) hT2.ep.drew z hzk).mono ?_; rintro e w' ⟨rfl, rfl⟩))
                all_goals go_wp2
                go_roundw
                case rel => exact ⟨z + 1, by omega, by go_num, hT2.drew⟩
                case measure => simp only [intOf]; omega
              · obtain rfl : z = k := by omega
                go_wp2
                go_roundw
                case rel => exact ⟨j + 1, n, (setPin pin c (-1)), by go_num, by rfl, by omega, by omega, hT2⟩
                case measure => simp only [intOf]; omega
          · have HQ := Lib.hid hq'
            clear hq'
            have hT := hS.setNow ((n + 1 : Nat) : Int)
            rw [show ((n + 1 : Nat) : Int) = (n : Int) + 1 from by omega] at hT
            have hne : ((n : Int) == (n : Int) + 1) = false := by simp; omega
            have HNE := Lib.hid hne
            clear hne
            go_wp2_with (first
              | (go_at_call 6; clear F1; refine (within_any _ _ (by omega) (by omega) _).mono ?_; rintro e w1 ⟨rfl, rfl⟩; rw [HC.out])
              | (go_at_call 6; refine (within_any _ _ (by omega) (by omega) _).mono ?_; rintro e w1 ⟨rfl, rfl⟩; rw [HQ.out])
              | (go_at_call 10; clear F2; refine (adv_no hS.ep _ HNE.out).mono ?_; rintro e w1 ⟨rfl, rfl⟩)
              | (go_at_call 10; refine (adv_yes hS.ep (by omega) (by omega)).mono ?_; rintro e w1 ⟨rfl, rfl⟩)
              | fail)
            go_loopw [114] (fun i wr => ∃ i' : Nat, i' ≤ k ∧ i = .int .i64 i' ∧ PinSt W E W.heap.size Q k (n + 1) pin wr) (fun i _ => k - (intOf i).toNat)
            case atStart => exact ⟨0, by omega, rfl, by simpa only [Nat.zero_add] using hT⟩
            case round =>
              obtain ⟨z, hz, rfl, hT2⟩ := hrel
              by_cases hzk : z < k
              · have hz1 : (z : Int) < k := by omega
                have hz0 : (0 : Int) ≤ z := by omega
                have hcz := hT2.row z hzk
                go_wp2
                go_region_held3 (fun w' => w'.cell? ⟨Q, z, none⟩ = some (.int .i64 (pin z))) (go_keep) (first | (go_at_call 11; refine (pinOf_in (w := _) hT2.ep.drew z hzk).mono ?_; rintro e w' ⟨rfl, rfl⟩))
                all_goals go_wp2
                go_roundw
                case rel => exact ⟨z + 1, by omega, by go_num, hT2.drew⟩
                case measure => simp only [intOf]; omega
              · obtain rfl : z = k := by omega
                go_wp2
                go_roundw
                case rel => exact ⟨j + 1, (n + 1), pin, by go_num, by go_num, by omega, by omega, hT2⟩
                case measure => simp only [intOf]; omega
        · have HI := Lib.hid hin
          clear hin
          have hne : ((-1 : Int) == -1) = true := rfl
          go_wp2_with (first
            | (go_at_call 12; refine (now_any hS.ep).mono ?_; rintro e w1 ⟨rfl, rfl⟩)
            | (go_at_call 8; refine (pin_out hS.ep _ _ (.inr (Int.le_refl _))).mono ?_; rintro e w1 ⟨rfl, rfl⟩)
            | (go_at_call 9; refine (unpin_out hS.ep _ (.inl (by omega))).mono ?_; rintro e w1 ⟨rfl, rfl⟩)
            | (go_at_call 11; refine (pinOf_out hS.ep _ (.inr (Int.le_refl _))).mono ?_; rintro e w1 ⟨rfl, rfl⟩)
            | (go_at_call 13; refine (epochRuns_any _).mono ?_; rintro e w9 ⟨rfl, hb9⟩)
            | fail)
          all_goals first
            | (exfalso; have := HI.out; omega)
            | (go_ret; exact ⟨rfl, hS.bel.trans (hb9.mono hS.bel.size)⟩)
end Go.Proofs.Ytlkanknmjkeagaa
