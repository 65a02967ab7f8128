/-
  ArenaPlays at any numbers and any asks; conditions: lengths.
-/
import Derived.Test.YtndmpdpmfieacaaRg2
import Derived.Test.YtndmpdpmfieacaaRuns
import Derived.Deep.CutBlock
import Derived.Deep.CutRange
namespace Go.Proofs.Ytndmpdpmfieacaa
open Go.RowKit Go.WideShapes Go.ChangeShapes
set_option linter.all false
set_option maxRecDepth 100000
attribute [local go_sem ↓] Go.wp_at_zero Go.wp_at_succ
def Box2 (bx : Nat) (u v : Value) (W : World) : Prop := W.cell? ⟨bx, 3, none⟩ = some u ∧ W.cell? ⟨bx, 6, none⟩ = some v
theorem set5 {W : World} {g : Nat} {a : Nat → Int} (h : W.heap[g]? = some (.cells (five a) 22 (0, 0))) (f : Nat → Int) :
    (((((W.setCell ⟨g, 0, none⟩ (.int .i64 (f 0))).setCell ⟨g, 1, none⟩ (.int .i64 (f 1))).setCell ⟨g, 2, none⟩ (.int .i64 (f 2))).setCell ⟨g, 3, none⟩ (.int .i64 (f 3))).setCell ⟨g, 4, none⟩ (.int .i64 (f 4))).heap[g]? = some (.cells (five f) 22 (0, 0)) :=
  (heap_setCell_same _ g 4 _ 22 _ (heap_setCell_same _ g 3 _ 22 _ (heap_setCell_same _ g 2 _ 22 _ (heap_setCell_same _ g 1 _ 22 _ (heap_setCell_same W g 0 _ 22 (.int .i64 (f 0)) h))))).trans rfl
set_option maxHeartbeats 12800000 in
theorem plays_any (a : Nat → Int) (raw : Bool) (A' : Option Addr) (n' c' : Nat) (E : Nat → AskE) (w : World) (r' : Asks7 w A' n' E) : Calls Try.prog 7 #[.agg (five a), .bool raw, .slice A' n' c'] w fun e w' => e = .returned (.bool true) ∧ Below w.heap.size w w' := by
  have HR' := Lib.hid r'
  obtain ⟨i3, hi3, z3a, z3b, z3c⟩ := info_parts info3
  clear r'
  have hcn : ∀ W, Calls Try.prog 12 #[.agg (five a)] W fun e w' => e = .returned (.agg (five fun i => withinV (a i) 6)) ∧ Below W.heap.size W w' := fun W => counts_any a W
  obtain ⟨f9, hf2⟩ : ∃ f9 : Nat → Int, f9 = fun i => withinV (a i) 6 := ⟨_, rfl⟩
  rw [← hf2] at hcn
  clear hf2
  unfold five at hcn ⊢
  have HC := Lib.hid hcn
  clear hcn
  obtain ⟨W1, hW1⟩ : ∃ W1 : World, W1 = w.alloc (.cells (five a) 22) := ⟨_, rfl⟩
  have b1 : Below w.heap.size w W1 := by rw [hW1]; exact below_alloc w _
  have h1 : W1.heap[w.heap.size]? = some (.cells (five a) 22 (0, 0)) := by rw [hW1]; exact heap_alloc_new w _
  unfold five at hW1
  obtain ⟨g, hg⟩ : ∃ g, g = w.heap.size := ⟨_, rfl⟩
  rw [← hg] at h1
  have HG := Lib.hid hg
  have H1 := Lib.hid h1
  have HB1 := Lib.hid b1
  clear h1 b1
  go_enter Try.func7, Try.ntmps7
  go_upto_if 35 with (fail)
  rw [← hW1, ← hg]
  clear hW1 hg
  go_cut [] from 36 to 37 (fun wx => Hid (∃ f, wx.heap[g]? = some (.cells (five f) 22 (0, 0)) ∧ Below w.heap.size w wx))
  case first =>
    have d0 := (cell_of H1.out 0).trans (five_at a (by decide : 0 < 5))
    have d1 := (cell_of H1.out 1).trans (five_at a (by decide : 1 < 5))
    have d2 := (cell_of H1.out 2).trans (five_at a (by decide : 2 < 5))
    have d3 := (cell_of H1.out 3).trans (five_at a (by decide : 3 < 5))
    have d4 := (cell_of H1.out 4).trans (five_at a (by decide : 4 < 5))
    cases raw
    · go_upto_region 3 with (first
        | (go_at_call 12; refine (HC.out _).mono ?_; rintro e w2 ⟨rfl, hb2⟩
           have HB2 := Lib.hid hb2
           have h2 := (hb2.block g (lt_of_heap H1.out)).trans H1.out
           have f0 := frozen_of h2 0
           have f1 := frozen_of h2 1
           have f2 := frozen_of h2 2
           have f3 := frozen_of h2 3
           have f4 := frozen_of h2 4
           have q0 := (cell_of h2 0).trans (five_at a (by decide : 0 < 5))
           have q1 := (cell_of h2 1).trans (five_at a (by decide : 1 < 5))
           have q2 := (cell_of h2 2).trans (five_at a (by decide : 2 < 5))
           have q3 := (cell_of h2 3).trans (five_at a (by decide : 3 < 5))
           have q4 := (cell_of h2 4).trans (five_at a (by decide : 4 < 5))
           have H2 := Lib.hid h2
           clear d0 d1 d2 d3 d4 hb2 h2)
        | fail)
      go_meet
      case rel => exact Lib.hid ⟨f9, set5 H2.out f9, ((((((HB1.out.trans (HB2.out.mono HB1.out.size)).setCell (p := ⟨g, 0, none⟩) (Nat.le_of_eq HG.out.symm) _).setCell (p := ⟨g, 1, none⟩) (Nat.le_of_eq HG.out.symm) _).setCell (p := ⟨g, 2, none⟩) (Nat.le_of_eq HG.out.symm) _).setCell (p := ⟨g, 3, none⟩) (Nat.le_of_eq HG.out.symm) _).setCell (p := ⟨g, 4, none⟩) (Nat.le_of_eq HG.out.symm) _)⟩
    · go_upto_region 3 with (fail)
      go_meet
      case rel => exact Lib.hid ⟨a, H1.out, HB1.out⟩
  case rest =>
    obtain ⟨f, hf, hbw⟩ := hcut.out
    clear hcut HC H1 HB1 HG
    have d0 := (cell_of hf 0).trans (five_at f (by decide : 0 < 5))
    have d1 := (cell_of hf 1).trans (five_at f (by decide : 1 < 5))
    have d2 := (cell_of hf 2).trans (five_at f (by decide : 2 < 5))
    have d3 := (cell_of hf 3).trans (five_at f (by decide : 3 < 5))
    have d4 := (cell_of hf 4).trans (five_at f (by decide : 4 < 5))
    have HF := Lib.hid hf
    have HBW := Lib.hid hbw
    clear hf hbw
    by_cases hbad : BadN f
    · have hn1 := fun W => new_bad f hbad W
      have hn2 := fun W => rnew_bad f hbad W
      unfold five at hn1 hn2
      have HN1 := Lib.hid hn1
      have HN2 := Lib.hid hn2
      clear hn1 hn2
      go_upto_region 7 with (first
        | (go_at_call 13; refine (HN1.out _).mono ?_; rintro e w2 ⟨rfl, hb2⟩
           have h2 := (hb2.block g (lt_of_heap HF.out)).trans HF.out
           have q0 := (cell_of h2 0).trans (five_at f (by decide : 0 < 5))
           have q1 := (cell_of h2 1).trans (five_at f (by decide : 1 < 5))
           have q2 := (cell_of h2 2).trans (five_at f (by decide : 2 < 5))
           have q3 := (cell_of h2 3).trans (five_at f (by decide : 3 < 5))
           have q4 := (cell_of h2 4).trans (five_at f (by decide : 4 < 5))
           have HB2 := Lib.hid (HBW.out.trans (hb2.mono HBW.out.size))
           clear d0 d1 d2 d3 d4 hb2 h2)
        | (go_at_call 26; refine (HN2.out _).mono ?_; rintro e w3 ⟨rfl, hb3⟩
           have HB3 := Lib.hid (HB2.out.trans (hb3.mono HB2.out.size))
           clear q0 q1 q2 q3 q4 hb3)
        | fail)
      go_wp2
      go_loopw [12] (fun i W => i = .int .i64 0 ∧ Hid (Below w.heap.size w W)) (fun _ _ => 0)
      case atStart => exact ⟨rfl, HB3⟩
      case round =>
        obtain ⟨rfl, HBR⟩ := hrel
        by_cases h0 : (0 : Int) < n'
        · go_wp2_with (first
            | (go_at_call 20; refine (arenaRuns_any _).mono ?_; rintro e w9 ⟨rfl, hb9⟩)
            | fail)
          go_ret
          exact ⟨rfl, HBR.out.trans (hb9.mono HBR.out.size)⟩
        · go_wp2_with (first
            | (go_at_call 20; refine (arenaRuns_any _).mono ?_; rintro e w9 ⟨rfl, hb9⟩)
            | fail)
          go_ret
          exact ⟨rfl, HBR.out.trans (hb9.mono HBR.out.size)⟩
    · obtain ⟨ns, hns, hk⟩ := good_nums f hbad
      have hfn : ∀ c, c < 5 → f c = (ns c : Nat) := hns
      have hpl := pl_new ns hk HBW.out
      unfold nsV at hpl
      rw [hns 0 (by omega)] at d0
      rw [hns 1 (by omega)] at d1
      rw [hns 2 (by omega)] at d2
      rw [hns 3 (by omega)] at d3
      rw [hns 4 (by omega)] at d4
      have HPN := Lib.hid hpl
      have D0 := Lib.hid d0
      have D1 := Lib.hid d1
      have D2 := Lib.hid d2
      have D3 := Lib.hid d3
      have D4 := Lib.hid d4
      obtain ⟨k, hkk⟩ : ∃ k, k = sumN ns 5 := ⟨_, rfl⟩
      rw [← hkk] at HPN
      clear hpl hns hfn hbad hk hkk
      go_upto_region 7 with (first
        | (go_at_call 13; refine HPN.out.mono ?_; rintro e w2 ⟨B, rfl, hb2, hnx⟩
           have HNX := Lib.hid (hnx w2 (Below.refl _ _))
           have q0 := (hb2.cell (World.block_lt_of_cell? _ _ D0.out)).trans D0.out
           have q1 := (hb2.cell (World.block_lt_of_cell? _ _ D1.out)).trans D1.out
           have q2 := (hb2.cell (World.block_lt_of_cell? _ _ D2.out)).trans D2.out
           have q3 := (hb2.cell (World.block_lt_of_cell? _ _ D3.out)).trans D3.out
           have q4 := (hb2.cell (World.block_lt_of_cell? _ _ D4.out)).trans D4.out
           clear d0 d1 d2 d3 d4 hb2 hnx HPN)
        | (go_at_call 26; refine HNX.out.mono ?_; rintro e w3 ⟨Q, rfl, hpl⟩
           have HPL := Lib.hid hpl
           clear q0 q1 q2 q3 q4 hpl HNX)
        | fail)
      clear D0 D1 D2 D3 D4 HF HBW
      go_wp2
      go_loopw [11, 12] (fun vr i W => ∃ (j m : Nat) (VR : Value), i = .int .i64 j ∧ j ≤ n' ∧ j ≤ 60 ∧ m ≤ j ∧ VR = vr ∧ Hid (PL w B Q k (1 + j) m VR W)) (fun _ i _ => 60 - (intOf i).toNat)
      case atStart => exact ⟨0, 0, _, rfl, Nat.zero_le _, Nat.zero_le _, Nat.zero_le _, rfl, HPL⟩
      case round =>
        clear HPL
        obtain ⟨j, m, VR, rfl, hj, hj6, hmj, hVR, HPL⟩ := hrel
        subst hVR
        have j0 : (0 : Int) ≤ j := by omega
        by_cases hlt : j < n' ∧ j < 60
        · obtain ⟨hl1, hl2⟩ := hlt
          have j1 : (j : Int) < n' := by omega
          have j2 : (j : Int) < 60 := by omega
          obtain ⟨adq, rfl, hbl', hat⟩ := HR'.out j hl1
          have HBW := Lib.hid HPL.out.bel
          obtain ⟨F, hF⟩ : ∃ F, F = (E j).F := ⟨_, rfl⟩
          obtain ⟨ft, hft⟩ : ∃ ft, ft = (E j).ft := ⟨_, rfl⟩
          obtain ⟨Aw, hAw⟩ : ∃ Aw, Aw = (E j).A := ⟨_, rfl⟩
          obtain ⟨nw, hnw⟩ : ∃ nw, nw = (E j).n := ⟨_, rfl⟩
          obtain ⟨cw, hcw⟩ : ∃ cw, cw = (E j).c := ⟨_, rfl⟩
          obtain ⟨lw, hlw⟩ : ∃ lw, lw = (E j).xs := ⟨_, rfl⟩
          have hnum := hat.nums
          have hwas := hat.was
          have hfit := hat.fits
          have hwrd := hat.words
          have hrd := hat.reads
          have hle := hat.le
          rw [← hF] at hnum hwas
          rw [← hft] at hfit
          rw [← hAw, ← hnw, ← hcw] at hwrd
          rw [← hAw, ← hnw, ← hlw] at hrd
          rw [← hnw, ← hcw] at hle
          clear hF hft hAw hnw hcw hlw hat
          have HRD := Lib.hid hrd
          have HLE := Lib.hid hle
          clear hrd hle
          have fx : ∀ (i : Nat), i ≠ 0 → ∀ (u : Value), w.cell? (adq.add (j * 7 + i)) = some u → wr.cell? ⟨(adq.add (j * 7)).block, (adq.add (j * 7)).off + i, none⟩ = some u := fun i hi u h => by
            have e2 : (⟨(adq.add (j * 7)).block, (adq.add (j * 7)).off + i, none⟩ : Addr) = (adq.add (j * 7)).add i := by unfold Addr.add; rw [if_neg hi]
            rw [e2, add_of_add]; exact (HBW.out.cell (p := adq.add (j * 7 + i)) (by rw [block_of_add]; exact hbl')).trans h
          have e0 : wr.cell? (adq.add (j * 7)) = some (.int .i64 (F 0)) := (HBW.out.cell (p := adq.add (j * 7)) (by rw [block_of_add]; exact hbl')).trans (hnum 0 (by omega))
          have e1 := fx 1 (by decide) _ (hnum 1 (by omega))
          have e2 := fx 2 (by decide) _ (hnum 2 (by omega))
          have e3 := fx 3 (by decide) _ (hnum 3 (by omega))
          have e4 := fx 4 (by decide) _ hwas
          have e5 := fx 5 (by decide) _ hfit
          have e6 := fx 6 (by decide) _ hwrd
          clear fx hnum hwas hfit hwrd hbl'
          go_upto_region 12 with (fail)
          have hbx0 := HPL.out.toBX HRD.out F ft cw
          obtain ⟨Wb, hWb⟩ : ∃ Wb : World, Wb = wr.alloc (.cells #[.int .i64 (F 0), .int .i64 (F 1), .int .i64 (F 2), .int .i64 (F 3), .int .u64 (F 4), .bool ft, .slice Aw nw cw] 50) := ⟨_, rfl⟩
          rw [← hWb] at hbx0 ⊢
          obtain ⟨bx, hbx⟩ : ∃ bx, bx = wr.heap.size := ⟨_, rfl⟩
          rw [← hbx] at hbx0 ⊢
          have HBX := Lib.hid hbx0
          clear e0 e1 e2 e3 e4 e5 e6 hWb hbx hbx0 HPL HBW HRD HR'
          obtain ⟨AR, cr, er⟩ : ∃ A c, VR = .slice A m c := by obtain ⟨rs, hmid, _⟩ := HBX.out.ps.pl.mid; exact hmid.form
          subst er
          obtain ⟨e0, e1, e2, e3, e4, e5, e6⟩ := HBX.out.at
          have f6 := HBX.out.frz 6
          go_upto_if 79 with (fail)
          go_cut [] from 76 to 83 (fun wx => Hid (∃ n2 l2, BX w B Q k (1 + j) m (.slice AR m cr) bx F ft Aw n2 cw l2 wx))
          case first =>
            by_cases hgt : (nw : Int) > 270
            · have hc27 : 270 ≤ cw := by have := HLE.out.1; omega
              go_wp2
              go_meet
              case rel => exact Lib.hid ⟨270, _, HBX.out.cut (n' := 270) (by omega)⟩
            · go_wp2
              go_meet
              case rel => exact Lib.hid ⟨nw, lw, HBX.out⟩
          case rest =>
            clear e0 e1 e2 e3 e4 e5 e6 f6 HBX
            obtain ⟨n2, l2, hbx0⟩ := hcut.out
            have HBX := Lib.hid hbx0
            clear hcut hbx0 HLE
            obtain ⟨e0, e1, e2, e3, e4, e5, e6⟩ := HBX.out.at
            have f3 := HBX.out.frz 3
            go_upto_region 14 with (fail)
            go_cut [91] from 84 to 91 (fun s wx => ∃ b9 : Bool, s = .bool b9 ∧ (b9 = true → 0 ≤ F 2 ∧ 0 < m) ∧ wx = wc)
            case first =>
              by_cases hN0 : F 2 ≥ 0
              · by_cases hm0 : 0 < m
                · have hmi : (m : Int) > 0 := by omega
                  go_wp2
                  go_meet
                  case rel => exact ⟨true, rfl, fun _ => ⟨hN0, hm0⟩, rfl⟩
                · have hmi : ¬ (m : Int) > 0 := by omega
                  go_wp2
                  go_meet
                  case rel => exact ⟨false, rfl, fun h => (by cases h), rfl⟩
              · go_wp2
                go_meet
                case rel => exact ⟨false, rfl, fun h => (by cases h), rfl⟩
            case rest =>
              obtain ⟨b9, rfl, hb9, hw9⟩ := hcut
              subst hw9
              go_upto_if 91 with (fail)
              go_cut [] from 84 to 100 (fun wx => Hid (∃ F2, BX w B Q k (1 + j) m (.slice AR m cr) bx F2 ft Aw n2 cw l2 wx))
              case first =>
                cases b9
                · go_wp2
                  go_meet
                  case rel => exact Lib.hid ⟨F, HBX.out⟩
                · obtain ⟨hN0, hm0⟩ := hb9 rfl
                  clear hb9
                  obtain ⟨g2, o2, c2, rs, hv, hlr, hat⟩ := HBX.out.ps.pl.at_ hm0
                  simp only [Value.slice.injEq, true_and] at hv
                  obtain ⟨rfl, rfl⟩ := hv
                  have hmi : (0 : Int) < m := by omega
                  have hm1 : (m : Int) ≠ 0 := by omega
                  have hx : (F 2).tmod m = (((F 2).toNat % m : Nat) : Int) := by
                    rw [Int.tmod_eq_emod_of_nonneg hN0, Int.natCast_emod, Int.toNat_of_nonneg hN0]
                  have hxm : (F 2).toNat % m < m := Nat.mod_lt _ hm0
                  have d := hat _ hxm
                  generalize (F 2).toNat % m = x at *
                  have hx0 : (0 : Int) ≤ x := by omega
                  have hx1 : (x : Int) < m := by omega
                  go_wp2
                  go_meet
                  case rel => exact Lib.hid ⟨_, HBX.out.ref _⟩
              case rest =>
                clear e0 e1 e2 e3 e4 e5 e6 f3 HBX hb9
                obtain ⟨F2, hbx0⟩ := hcut.out
                have HBX := Lib.hid hbx0
                clear hcut hbx0
                obtain ⟨e0, e1, e2, e3, e4, e5, e6⟩ := HBX.out.at
                have HRL := Lib.hid (ps_rload HBX.out.ps (F2 3))
                go_upto_region 17 with (first
                  | (go_at_call 27; refine HRL.out.mono ?_; rintro e w5 ⟨Ax, nx, cx, fx, rfl, hb5, hx5⟩
                     have HBX5 := Lib.hid (HBX.out.on hb5)
                     have HX5 := Lib.hid hx5
                     clear e0 e1 e2 e3 e4 e5 e6 hb5 hx5)
                  | fail)
                clear HRL HBX
                obtain ⟨e0, e1, e2, e3, e4, e5, e6⟩ := HBX5.out.at
                have f4 := HBX5.out.frz 4
                go_cut [113] from 101 to 113 (fun s wx => ∃ b9 : Bool, s = .bool b9 ∧ (b9 = true → fx = 0) ∧ wx = w5)
                case first =>
                  cases ft
                  · go_wp2
                    go_meet
                    case rel => exact ⟨false, rfl, fun h => (by cases h), rfl⟩
                  · by_cases hf0 : fx = 0
                    · go_wp2
                      go_meet
                      case rel => exact ⟨true, rfl, fun _ => hf0, rfl⟩
                    · go_wp2
                      go_meet
                      case rel => exact ⟨_, rfl, fun h => eq_of_beq h, rfl⟩
                case rest =>
                  obtain ⟨b9, rfl, hb9, hw9⟩ := hcut
                  subst hw9
                  go_upto_if 113 with (fail)
                  go_cut [14, 15] from 101 to 117 (fun s14 s15 wx => Hid (∃ F3, BX w B Q k (1 + j) m (.slice AR m cr) bx F3 ft Aw n2 cw l2 wx))
                  case first =>
                    cases b9
                    · go_wp2
                      go_meet
                      case rel => exact Lib.hid ⟨F2, HBX5.out⟩
                    · obtain ⟨g5, o5, x5, hA5, hn5, hc5⟩ := HX5.out (hb9 rfl)
                      subst hA5
                      have hn6 : (0 : Int) < nx := by omega
                      go_wp2
                      go_meet
                      case rel => exact Lib.hid ⟨_, HBX5.out.was _⟩
                  case rest =>
                    clear e0 e1 e2 e3 e4 e5 e6 f4 HBX5 hb9 HX5
                    obtain ⟨F, hbx0⟩ := hcut.out
                    have HBX := Lib.hid hbx0
                    clear hcut hbx0
                    obtain ⟨e0, e1, e2, e3, e4, e5, e6⟩ := HBX.out.at
                    go_upto_block 2 with (fail)
                    go_cut [11, 16] from 118 to 235 (fun s11 s16 wx => ∃ (M : Nat) (VR : Value), VR = s11 ∧ s16 = .bool true ∧ M ≤ j + 1 ∧ Hid (PL w B Q k (1 + (j + 1)) M VR wx))
                    case first =>
                      obtain ⟨kd, hkd⟩ : ∃ kd, kd = F 0 := ⟨_, rfl⟩
                      rw [← hkd] at e0
                      try rw [← hkd]
                      clear hkd
                      by_cases h1 : kd = 1
                      · subst h1
                        as_aux_lemma =>
                          have HA := Lib.hid (ps_alloc HBX.out.ps (by omega) (F 1) (d := cw) HBX.out.rd)
                          go_upto_region 23 with (first
                            | (go_at_call 23; refine HA.out.mono ?_; rintro e w6 ⟨z, fz, rfl, hb6, hnx⟩
                               have HNX := Lib.hid hnx
                               have h6 := hb6.trans HBX.out.cells
                               have e1' : w6.cell? ⟨bx, 1, none⟩ = some (.int .i64 (F 1)) := cell_of h6 1
                               have e6' : w6.cell? ⟨bx, 6, none⟩ = some (.slice Aw n2 cw) := cell_of h6 6
                               clear hb6 hnx h6 e0 e1 e2 e3 e4 e5 e6)
                            | fail)
                          go_upto_region 24 with (first
                            | (go_at_call 28; refine HNX.out.mono ?_; rintro e w7 ⟨rfl, hps, -⟩
                               have HPS := Lib.hid hps
                               clear hps e1' e6')
                            | fail)
                          by_cases hz : fz = 0
                          · subst hz
                            obtain ⟨rs, hmid, hgrow⟩ := (HPS.out.pl.more.on (below_alloc w7 (.cells #[.int .i64 z] 3))).grow
                            have HMID := Lib.hid hmid
                            have HGR := Lib.hid hgrow
                            have HSZ := Lib.hid (HPS.out.pl.bel.size)
                            clear hmid hgrow
                            go_wp2_with (first
                              | (refine wpList_append_mid rfl (.tmp 150) (.tmp 152) 45 rfl w.heap.size 3 i3 _ 1 8 Try.underlying45 hi3 z3a z3b z3c rfl (by omega) (.slice AR m cr) m (ks .i64 rs) rfl HMID.out ⟨_, 0, none⟩ 1 1 [.int .i64 z] rfl rfl (World.news_of_block (cs := #[.int .i64 z]) (t := 3) (fr := (0, 0)) (heap_alloc_new _ _)) (by simp [Value.oneCell']) (by unfold maxLen; omega) (by omega) (by have := HSZ.out; simp; omega) ?_
                                 intro VR2 w8 hmx hrx
                                 have HP8 := Lib.hid (HGR.out _ _ _ hmx hrx)
                                 clear hmx hrx)
                              | fail)
                            go_meet
                            case rel => exact ⟨m + 1, _, rfl, by first | rfl | simp, by omega, HP8⟩
                          · go_wp2
                            go_meet
                            case rel => exact ⟨m, _, rfl, by first | rfl | simp, by omega, Lib.hid HPS.out.pl.more⟩
                      · have g1 : (kd == 1) = false := by simp; omega
                        by_cases h2 : kd = 2
                        · subst h2
                          as_aux_lemma =>
                            go_upto_region 28 with (fail)
                            obtain ⟨Wd, hWd⟩ : ∃ Wd : World, Wd = wc.drew := ⟨_, rfl⟩
                            have HBD := Lib.hid (HBX.out.on (W' := Wd) (by rw [hWd]; exact below_drew wc))
                            have hS2 : Box2 bx (.int .i64 (F 3)) (.slice Aw n2 cw) Wd := ⟨HBD.out.at.2.2.2.1, HBD.out.at.2.2.2.2.2.2⟩
                            refine wp_region_K (Box2 bx (.int .i64 (F 3)) (.slice Aw n2 cw)) 9 (by kernel_rfl) ?_
                            rw [← hWd]
                            clear hWd e0 e1 e2 e3 e4 e5 e6
                            have HA := Lib.hid (ps_free HBD.out.ps (by omega) (F 3))
                            refine wpAnyK_pure (i := 0) (oi := _) (v := ?_) (by rfl) (by kernel_rfl) (by intro _ _ _ h; exact h) (Or.inl ⟨by rfl, ?_⟩) ?_
                            rotate_left 1
                            · intro w' _
                              go_simp
                              all_goals with_reducible rfl
                            simp only [Act.put, List.getElem_toArray, List.getElem_cons_zero, List.getElem_cons_succ, List.setIfInBounds_toArray, List.set_cons_zero, List.set_cons_succ]
                            refine wpAnyK_pure (i := 1) (oi := _) (v := ?_) (by rfl) (by kernel_rfl) (by intro _ _ _ h; exact h) (Or.inl ⟨by rfl, ?_⟩) ?_
                            rotate_left 1
                            · intro w' _
                              go_simp
                              all_goals with_reducible rfl
                            simp only [Act.put, List.getElem_toArray, List.getElem_cons_zero, List.getElem_cons_succ, List.setIfInBounds_toArray, List.set_cons_zero, List.set_cons_succ]
                            refine wpAnyK_take (i := 2) (oi := _) (v := ?_) (by rfl) (by kernel_rfl) (by intro _ _ _ h; exact h) hS2 (Or.inl ⟨by rfl, ?_⟩) ?_
                            rotate_left 1
                            · intro w' hl
                              have hl1 : w'.cell? ⟨bx, 3, none⟩ = _ := hl.1
                              have hl2 : w'.cell? ⟨bx, 6, none⟩ = _ := hl.2
                              clear hl
                              go_simp
                              all_goals with_reducible rfl
                            simp only [Act.put, List.getElem_toArray, List.getElem_cons_zero, List.getElem_cons_succ, List.setIfInBounds_toArray, List.set_cons_zero, List.set_cons_succ]
                            refine wpAnyK_pure (i := 4) (oi := _) (v := ?_) (by rfl) (by kernel_rfl) (by intro _ _ _ h; exact h) (Or.inl ⟨by rfl, ?_⟩) ?_
                            rotate_left 1
                            · intro w' _
                              go_simp
                              all_goals with_reducible rfl
                            simp only [Act.put, List.getElem_toArray, List.getElem_cons_zero, List.getElem_cons_succ, List.setIfInBounds_toArray, List.set_cons_zero, List.set_cons_succ]
                            refine wpAnyK_pure (i := 5) (oi := _) (v := ?_) (by rfl) (by kernel_rfl) (by intro _ _ _ h; exact h) (Or.inl ⟨by rfl, ?_⟩) ?_
                            rotate_left 1
                            · intro w' _
                              go_simp
                              all_goals with_reducible rfl
                            simp only [Act.put, List.getElem_toArray, List.getElem_cons_zero, List.getElem_cons_succ, List.setIfInBounds_toArray, List.set_cons_zero, List.set_cons_succ]
                            refine wpAnyK_take (i := 6) (oi := _) (v := ?_) (by rfl) (by kernel_rfl) (by intro _ _ _ h; exact h) hS2 (Or.inl ⟨by rfl, ?_⟩) ?_
                            rotate_left 1
                            · intro w' hl
                              have hl1 : w'.cell? ⟨bx, 3, none⟩ = _ := hl.1
                              have hl2 : w'.cell? ⟨bx, 6, none⟩ = _ := hl.2
                              clear hl
                              go_simp
                              all_goals with_reducible rfl
                            simp only [Act.put, List.getElem_toArray, List.getElem_cons_zero, List.getElem_cons_succ, List.setIfInBounds_toArray, List.set_cons_zero, List.set_cons_succ]
                            refine wpAnyK_all (rs := [3]) (by kernel_rfl) (by simp) ?_
                            intro ix hix
                            simp only [List.mem_cons, List.not_mem_nil, or_false] at hix
                            subst hix
                            refine wpK_op (o := _) (by rfl) (fun K9 hK9 => ?_)
                            go_simp
                            go_at_call 18
                            refine HA.out.mono ?_
                            rintro e w6 ⟨fz, rfl, hb6, hnx⟩
                            have HNX := Lib.hid hnx
                            have HB6 := Lib.hid (hb6.trans HBD.out.cells)
                            have hS3 : Box2 bx (.int .i64 (F 3)) (.slice Aw n2 cw) w6 := ⟨cell_of HB6.out 3, cell_of HB6.out 6⟩
                            clear hb6 hnx
                            refine hK9 _ _ (fun _ _ => hS3) ?_
                            clear hK9 K9
                            try simp only [Act.put, List.getElem_toArray, List.getElem_cons_zero, List.getElem_cons_succ, List.setIfInBounds_toArray, List.set_cons_zero, List.set_cons_succ]
                            refine wpAnyK_all (rs := [7]) (by kernel_rfl) (by simp) ?_
                            intro ix hix
                            simp only [List.mem_cons, List.not_mem_nil, or_false] at hix
                            subst hix
                            refine wpK_op (o := _) (by rfl) (fun K9 hK9 => ?_)
                            go_simp
                            go_at_call 29
                            refine HNX.out.mono ?_
                            rintro e w7 ⟨rfl, hps, hb7⟩
                            have HPS := Lib.hid hps
                            have HB7 := Lib.hid (hb7.trans HBD.out.cells)
                            have hS4 : Box2 bx (.int .i64 (F 3)) (.slice Aw n2 cw) w7 := ⟨cell_of HB7.out 3, cell_of HB7.out 6⟩
                            clear hps hb7
                            refine hK9 _ _ (fun _ _ => hS4) ?_
                            clear hK9 K9
                            try simp only [Act.put, List.getElem_toArray, List.getElem_cons_zero, List.getElem_cons_succ, List.setIfInBounds_toArray, List.set_cons_zero, List.set_cons_succ]
                            refine wpAnyK_pure (i := 8) (oi := _) (v := ?_) (by rfl) (by kernel_rfl) (by intro _ _ _ h; exact h) (Or.inl ⟨by rfl, ?_⟩) ?_
                            rotate_left 1
                            · intro w' _
                              go_simp
                              all_goals with_reducible rfl
                            simp only [Act.put, List.getElem_toArray, List.getElem_cons_zero, List.getElem_cons_succ, List.setIfInBounds_toArray, List.set_cons_zero, List.set_cons_succ]
                            refine wpAnyK_all (rs := [9]) (by kernel_rfl) (by simp) ?_
                            intro ix hix
                            simp only [List.mem_cons, List.not_mem_nil, or_false] at hix
                            subst hix
                            refine wpK_op (o := _) (by rfl) (fun K9 hK9 => ?_)
                            go_simp
                            refine hK9 _ _ (fun h => absurd h (by omega)) ?_
                            clear hK9 K9
                            try simp only [Act.put, List.getElem_toArray, List.getElem_cons_zero, List.getElem_cons_succ, List.setIfInBounds_toArray, List.set_cons_zero, List.set_cons_succ]
                            refine wpAnyK_done (by kernel_rfl) ?_ _
                            go_wp2
                            go_meet
                            case rel => exact ⟨m, _, rfl, by first | rfl | simp, by omega, Lib.hid HPS.out.pl⟩
                        · have g2 : (kd == 2) = false := by simp; omega
                          by_cases h3 : kd = 3
                          · subst h3
                            as_aux_lemma =>
                              have HA := Lib.hid (ps_load HBX.out.ps (F 3))
                              go_upto_region 31 with (first
                                | (go_at_call 16; refine HA.out.mono ?_; rintro e w6 ⟨A6, n6, c6, fz, rfl, hb6, hn6, hnx⟩
                                   have HNX := Lib.hid hnx
                                   have HB6 := Lib.hid hb6
                                   have HBX6 := Lib.hid (HBX.out.on hb6)
                                   have e3' : w6.cell? ⟨bx, 3, none⟩ = some (.int .i64 (F 3)) := HBX6.out.at.2.2.2.1
                                   clear hb6 hn6 hnx e0 e1 e2 e3 e4 e5 e6)
                                | fail)
                              go_upto_region 32 with (first
                                | (go_at_call 27; refine HNX.out.mono ?_; rintro e w7 ⟨A7, c7, rfl, hb7, hsm⟩
                                   have HB7 := Lib.hid hb7
                                   have HSM := Lib.hid (hsm w7 (Below.refl _ _))
                                   clear hb7 hsm e3')
                                | fail)
                              go_wp2_with (first
                                | (go_at_call 24; refine HSM.out.mono ?_; rintro e w8 ⟨rfl, hb8⟩
                                   have HB8 := Lib.hid hb8
                                   clear hb8)
                                | fail)
                              go_meet
                              case rel => exact ⟨m, _, rfl, by first | rfl | simp, by omega, Lib.hid (((HBX6.out.ps.pl.on HB7.out).on HB8.out).more)⟩
                          · have g3 : (kd == 3) = false := by simp; omega
                            by_cases h4 : kd = 4
                            · subst h4
                              as_aux_lemma =>
                                go_upto_region 34 with (fail)
                                obtain ⟨Wd, hWd⟩ : ∃ Wd : World, Wd = wc.drew := ⟨_, rfl⟩
                                have HBD := Lib.hid (HBX.out.on (W' := Wd) (by rw [hWd]; exact below_drew wc))
                                have hS2 : Box2 bx (.int .i64 (F 3)) (.slice Aw n2 cw) Wd := ⟨HBD.out.at.2.2.2.1, HBD.out.at.2.2.2.2.2.2⟩
                                refine wp_region_K (Box2 bx (.int .i64 (F 3)) (.slice Aw n2 cw)) 13 (by kernel_rfl) ?_
                                rw [← hWd]
                                clear hWd e0 e1 e2 e3 e4 e5 e6
                                have HA := Lib.hid (ps_store HBD.out.ps (F 3) (d := cw) HBD.out.rd)
                                refine wpAnyK_pure (i := 0) (oi := _) (v := ?_) (by rfl) (by kernel_rfl) (by intro _ _ _ h; exact h) (Or.inl ⟨by rfl, ?_⟩) ?_
                                rotate_left 1
                                · intro w' _
                                  go_simp
                                  all_goals with_reducible rfl
                                simp only [Act.put, List.getElem_toArray, List.getElem_cons_zero, List.getElem_cons_succ, List.setIfInBounds_toArray, List.set_cons_zero, List.set_cons_succ]
                                refine wpAnyK_pure (i := 1) (oi := _) (v := ?_) (by rfl) (by kernel_rfl) (by intro _ _ _ h; exact h) (Or.inl ⟨by rfl, ?_⟩) ?_
                                rotate_left 1
                                · intro w' _
                                  go_simp
                                  all_goals with_reducible rfl
                                simp only [Act.put, List.getElem_toArray, List.getElem_cons_zero, List.getElem_cons_succ, List.setIfInBounds_toArray, List.set_cons_zero, List.set_cons_succ]
                                refine wpAnyK_take (i := 2) (oi := _) (v := ?_) (by rfl) (by kernel_rfl) (by intro _ _ _ h; exact h) hS2 (Or.inl ⟨by rfl, ?_⟩) ?_
                                rotate_left 1
                                · intro w' hl
                                  have hl1 : w'.cell? ⟨bx, 3, none⟩ = _ := hl.1
                                  have hl2 : w'.cell? ⟨bx, 6, none⟩ = _ := hl.2
                                  clear hl
                                  go_simp
                                  all_goals with_reducible rfl
                                simp only [Act.put, List.getElem_toArray, List.getElem_cons_zero, List.getElem_cons_succ, List.setIfInBounds_toArray, List.set_cons_zero, List.set_cons_succ]
                                refine wpAnyK_pure (i := 3) (oi := _) (v := ?_) (by rfl) (by kernel_rfl) (by intro _ _ _ h; exact h) (Or.inl ⟨by rfl, ?_⟩) ?_
                                rotate_left 1
                                · intro w' _
                                  go_simp
                                  all_goals with_reducible rfl
                                simp only [Act.put, List.getElem_toArray, List.getElem_cons_zero, List.getElem_cons_succ, List.setIfInBounds_toArray, List.set_cons_zero, List.set_cons_succ]
                                refine wpAnyK_take (i := 4) (oi := _) (v := ?_) (by rfl) (by kernel_rfl) (by intro _ _ _ h; exact h) hS2 (Or.inl ⟨by rfl, ?_⟩) ?_
                                rotate_left 1
                                · intro w' hl
                                  have hl1 : w'.cell? ⟨bx, 3, none⟩ = _ := hl.1
                                  have hl2 : w'.cell? ⟨bx, 6, none⟩ = _ := hl.2
                                  clear hl
                                  go_simp
                                  all_goals with_reducible rfl
                                simp only [Act.put, List.getElem_toArray, List.getElem_cons_zero, List.getElem_cons_succ, List.setIfInBounds_toArray, List.set_cons_zero, List.set_cons_succ]
                                refine wpAnyK_pure (i := 6) (oi := _) (v := ?_) (by rfl) (by kernel_rfl) (by intro _ _ _ h; exact h) (Or.inl ⟨by rfl, ?_⟩) ?_
                                rotate_left 1
                                · intro w' _
                                  go_simp
                                  all_goals with_reducible rfl
                                simp only [Act.put, List.getElem_toArray, List.getElem_cons_zero, List.getElem_cons_succ, List.setIfInBounds_toArray, List.set_cons_zero, List.set_cons_succ]
                                refine wpAnyK_pure (i := 7) (oi := _) (v := ?_) (by rfl) (by kernel_rfl) (by intro _ _ _ h; exact h) (Or.inl ⟨by rfl, ?_⟩) ?_
                                rotate_left 1
                                · intro w' _
                                  go_simp
                                  all_goals with_reducible rfl
                                simp only [Act.put, List.getElem_toArray, List.getElem_cons_zero, List.getElem_cons_succ, List.setIfInBounds_toArray, List.set_cons_zero, List.set_cons_succ]
                                refine wpAnyK_take (i := 8) (oi := _) (v := ?_) (by rfl) (by kernel_rfl) (by intro _ _ _ h; exact h) hS2 (Or.inl ⟨by rfl, ?_⟩) ?_
                                rotate_left 1
                                · intro w' hl
                                  have hl1 : w'.cell? ⟨bx, 3, none⟩ = _ := hl.1
                                  have hl2 : w'.cell? ⟨bx, 6, none⟩ = _ := hl.2
                                  clear hl
                                  go_simp
                                  all_goals with_reducible rfl
                                simp only [Act.put, List.getElem_toArray, List.getElem_cons_zero, List.getElem_cons_succ, List.setIfInBounds_toArray, List.set_cons_zero, List.set_cons_succ]
                                refine wpAnyK_pure (i := 9) (oi := _) (v := ?_) (by rfl) (by kernel_rfl) (by intro _ _ _ h; exact h) (Or.inl ⟨by rfl, ?_⟩) ?_
                                rotate_left 1
                                · intro w' _
                                  go_simp
                                  all_goals with_reducible rfl
                                simp only [Act.put, List.getElem_toArray, List.getElem_cons_zero, List.getElem_cons_succ, List.setIfInBounds_toArray, List.set_cons_zero, List.set_cons_succ]
                                refine wpAnyK_take (i := 10) (oi := _) (v := ?_) (by rfl) (by kernel_rfl) (by intro _ _ _ h; exact h) hS2 (Or.inl ⟨by rfl, ?_⟩) ?_
                                rotate_left 1
                                · intro w' hl
                                  have hl1 : w'.cell? ⟨bx, 3, none⟩ = _ := hl.1
                                  have hl2 : w'.cell? ⟨bx, 6, none⟩ = _ := hl.2
                                  clear hl
                                  go_simp
                                  all_goals with_reducible rfl
                                simp only [Act.put, List.getElem_toArray, List.getElem_cons_zero, List.getElem_cons_succ, List.setIfInBounds_toArray, List.set_cons_zero, List.set_cons_succ]
                                refine wpAnyK_all (rs := [5]) (by kernel_rfl) (by simp) ?_
                                intro ix hix
                                simp only [List.mem_cons, List.not_mem_nil, or_false] at hix
                                subst hix
                                refine wpK_op (o := _) (by rfl) (fun K9 hK9 => ?_)
                                go_simp
                                go_at_call 19
                                refine HA.out.mono ?_
                                rintro e w6 ⟨fz, rfl, hb6, hnx⟩
                                have HNX := Lib.hid hnx
                                have HB6 := Lib.hid (hb6.trans HBD.out.cells)
                                have hS3 : Box2 bx (.int .i64 (F 3)) (.slice Aw n2 cw) w6 := ⟨cell_of HB6.out 3, cell_of HB6.out 6⟩
                                clear hb6 hnx
                                refine hK9 _ _ (fun _ _ => hS3) ?_
                                clear hK9 K9
                                try simp only [Act.put, List.getElem_toArray, List.getElem_cons_zero, List.getElem_cons_succ, List.setIfInBounds_toArray, List.set_cons_zero, List.set_cons_succ]
                                refine wpAnyK_all (rs := [11]) (by kernel_rfl) (by simp) ?_
                                intro ix hix
                                simp only [List.mem_cons, List.not_mem_nil, or_false] at hix
                                subst hix
                                refine wpK_op (o := _) (by rfl) (fun K9 hK9 => ?_)
                                go_simp
                                go_at_call 30
                                refine HNX.out.mono ?_
                                rintro e w7 ⟨rfl, hps, hb7⟩
                                have HPS := Lib.hid hps
                                have HB7 := Lib.hid (hb7.trans HBD.out.cells)
                                have hS4 : Box2 bx (.int .i64 (F 3)) (.slice Aw n2 cw) w7 := ⟨cell_of HB7.out 3, cell_of HB7.out 6⟩
                                clear hps hb7
                                refine hK9 _ _ (fun _ _ => hS4) ?_
                                clear hK9 K9
                                try simp only [Act.put, List.getElem_toArray, List.getElem_cons_zero, List.getElem_cons_succ, List.setIfInBounds_toArray, List.set_cons_zero, List.set_cons_succ]
                                refine wpAnyK_pure (i := 12) (oi := _) (v := ?_) (by rfl) (by kernel_rfl) (by intro _ _ _ h; exact h) (Or.inl ⟨by rfl, ?_⟩) ?_
                                rotate_left 1
                                · intro w' _
                                  go_simp
                                  all_goals with_reducible rfl
                                simp only [Act.put, List.getElem_toArray, List.getElem_cons_zero, List.getElem_cons_succ, List.setIfInBounds_toArray, List.set_cons_zero, List.set_cons_succ]
                                refine wpAnyK_all (rs := [13]) (by kernel_rfl) (by simp) ?_
                                intro ix hix
                                simp only [List.mem_cons, List.not_mem_nil, or_false] at hix
                                subst hix
                                refine wpK_op (o := _) (by rfl) (fun K9 hK9 => ?_)
                                go_simp
                                refine hK9 _ _ (fun h => absurd h (by omega)) ?_
                                clear hK9 K9
                                try simp only [Act.put, List.getElem_toArray, List.getElem_cons_zero, List.getElem_cons_succ, List.setIfInBounds_toArray, List.set_cons_zero, List.set_cons_succ]
                                refine wpAnyK_done (by kernel_rfl) ?_ _
                                go_wp2
                                go_meet
                                case rel => exact ⟨m, _, rfl, by first | rfl | simp, by omega, Lib.hid HPS.out.pl.more⟩
                            · have g4 : (kd == 4) = false := by simp; omega
                              by_cases h5 : kd = 5
                              · subst h5
                                as_aux_lemma =>
                                  have HA := Lib.hid (ps_swap HBX.out.ps (F 3) (F 4) (d := cw) HBX.out.rd)
                                  go_upto_region 37 with (first
                                    | (go_at_call 17; refine HA.out.mono ?_; rintro e w6 ⟨bz, fz, rfl, hb6, hnx⟩
                                       have HNX := Lib.hid hnx
                                       have h6 := hb6.trans HBX.out.cells
                                       have e3' : w6.cell? ⟨bx, 3, none⟩ = some (.int .i64 (F 3)) := cell_of h6 3
                                       have e4' : w6.cell? ⟨bx, 4, none⟩ = some (.int .u64 (F 4)) := cell_of h6 4
                                       have e6' : w6.cell? ⟨bx, 6, none⟩ = some (.slice Aw n2 cw) := cell_of h6 6
                                       clear hb6 hnx h6 e0 e1 e2 e3 e4 e5 e6)
                                    | fail)
                                  go_upto_region 38 with (first
                                    | (go_at_call 31; refine HNX.out.mono ?_; rintro e w7 ⟨rfl, hps, -⟩
                                       have HPS := Lib.hid hps
                                       clear hps e3' e4' e6')
                                    | fail)
                                  go_wp2
                                  go_meet
                                  case rel => exact ⟨m, _, rfl, by first | rfl | simp, by omega, Lib.hid HPS.out.pl.more⟩
                              · have g5 : (kd == 5) = false := by simp; omega
                                go_wp2
                                go_meet
                                case rel => exact ⟨m, _, rfl, rfl, by omega, Lib.hid HBX.out.ps.pl.more⟩
                    case rest =>
                      as_aux_lemma =>
                        obtain ⟨M, VR, hVR, h16, hM, HPX⟩ := hcut
                        subst hVR h16
                        clear HBX e0 e1 e2 e3 e4 e5 e6
                        obtain ⟨N, S, sl, P, I, V, xs, T, o, cp, A, rl, ys, PA, PC, rs, hta, -⟩ := HPX.out
                        have HTA := Lib.hid hta
                        have c0 := hta.ra.c0
                        have hl4 := hta.ra.len
                        obtain ⟨L, hL⟩ : ∃ L, L = rl.length := ⟨_, rfl⟩
                        rw [← hL] at c0 hl4
                        have HL := Lib.hid hL
                        clear hta hL
                        go_wp2
                        clear c0
                        go_loopw [29, 241] (fun v29 i W => ∃ z : Nat, z ≤ L ∧ v29 = .int .i64 (liveC rl z : Nat) ∧ i = .int .i64 z ∧ Hid (Below wc.heap.size wc W)) (fun _ i _ => L - (intOf i).toNat)
                        case atStart => exact ⟨0, Nat.zero_le _, rfl, rfl, Lib.hid (Below.refl _ _)⟩
                        case round =>
                          obtain ⟨z, hz, rfl, rfl, HBZ⟩ := hrel
                          have z0 : (0 : Int) ≤ z := by omega
                          have HTZ := Lib.hid (HTA.out.on HBZ.out)
                          by_cases hzl : z < L
                          · have z1 : (z : Int) < L := by omega
                            have hA := HTA.out.ra.hA (by rw [← HL.out]; omega)
                            subst hA
                            have r0 := HTZ.out.ra.row.r0 z (by rw [← HL.out]; exact hzl)
                            have r1 := HTZ.out.ra.row.r1 z (by rw [← HL.out]; exact hzl)
                            have r2 := HTZ.out.ra.row.r2 z (by rw [← HL.out]; exact hzl)
                            have r3 := HTZ.out.ra.row.r3 z (by rw [← HL.out]; exact hzl)
                            have hnx : liveC rl (z + 1) = liveC rl z + if (rl.getD z dS).live = true then 1 else 0 := rfl
                            have hle := liveC_le rl z
                            generalize (rl.getD z dS).live = lv at *
                            generalize (rl.getD z dS).cls = c9 at *
                            generalize (rl.getD z dS).gen = g9 at *
                            generalize (rl.getD z dS).blk = b9 at *
                            generalize liveC rl z = q9 at *
                            have HNX := Lib.hid hnx
                            clear hnx
                            cases lv
                            · go_wp2
                              go_roundw
                              case rel =>
                                first
                                  | exact ⟨z + 1, by omega, by rw [HNX.out]; first | rfl | go_num, by go_num, Lib.hid (HBZ.out.trans ((below_alloc _ _).mono HBZ.out.size))⟩
                                  | (repeat apply Exists.intro
                                     refine ⟨?r2, rfl⟩
                                     case r2 => exact ⟨z + 1, by omega, by rw [HNX.out]; first | rfl | go_num, by go_num, Lib.hid (HBZ.out.trans ((below_alloc _ _).mono HBZ.out.size))⟩)
                              case measure =>
                                first
                                  | (simp only [intOf]; omega)
                                  | (show L - ((z : Int) + 1).toNat < L - ((z : Int)).toNat; omega)
                            · go_wp2
                              go_roundw
                              case rel =>
                                first
                                  | exact ⟨z + 1, by omega, by rw [HNX.out]; first | rfl | go_num, by go_num, Lib.hid (HBZ.out.trans ((below_alloc _ _).mono HBZ.out.size))⟩
                                  | (repeat apply Exists.intro
                                     refine ⟨?r2, rfl⟩
                                     case r2 => exact ⟨z + 1, by omega, by rw [HNX.out]; first | rfl | go_num, by go_num, Lib.hid (HBZ.out.trans ((below_alloc _ _).mono HBZ.out.size))⟩)
                              case measure =>
                                first
                                  | (simp only [intOf]; omega)
                                  | (show L - ((z : Int) + 1).toNat < L - ((z : Int)).toNat; omega)
                          · obtain rfl : L = z := by omega
                            have HPZ := Lib.hid (HPX.out.on HBZ.out)
                            have hlv := live_any HTZ.out.ar (by have := HTA.out.len; have := HTA.out.k9; omega) (by have := HTA.out.live; have := HTA.out.len; have := HTA.out.k9; omega)
                            rw [show ((sl.length : Int) - (freeN xs 5 : Nat)) = ((liveC rl L : Nat) : Int) by have := HTA.out.live; rw [← HL.out] at this; omega] at hlv
                            have HLV := Lib.hid hlv
                            clear hlv
                            generalize liveC rl L = q9 at *
                            go_upto_region 48 with (first
                              | (go_at_call 14; refine HLV.out.mono ?_; rintro e w9 ⟨rfl, hh⟩; subst w9)
                              | fail)
                            go_wp2
                            go_loop [32] (fun v => ∃ i : Nat, i ≤ 7 ∧ v = .int .i64 ((i : Int) - 1)) (fun v => 7 - (intOf v + 1).toNat)
                            case atStart => exact ⟨0, by omega, rfl⟩
                            case round =>
                              obtain ⟨i, hi, rfl⟩ := hrel
                              by_cases h7 : i = 7
                              · subst h7
                                go_wp2
                                go_roundw
                                case rel => exact ⟨j + 1, M, VR, by go_num, by omega, by omega, by omega, rfl, HPZ.out⟩
                                case measure => simp only [intOf]; omega
                              · by_cases hin : 1 ≤ i ∧ i ≤ 5
                                · obtain ⟨c, rfl⟩ : ∃ c, i = c + 1 := ⟨i - 1, by omega⟩
                                  have hc5 : c < 5 := by omega
                                  rw [show (((c + 1 : Nat) : Int) - 1) = (c : Nat) by omega]
                                  have c0 : (0 : Int) ≤ c := by omega
                                  have c1 : (c : Int) < 5 := by omega
                                  have c2 : (c : Int) ≤ 5 := by omega
                                  have d1 := (HTZ.out.ra.pl c hc5).c1
                                  have hrm := room_in HTZ.out.ar c hc5
                                  rw [← (HTA.out.rel c hc5).len (HTA.out.ar.pl c hc5).nodup] at hrm
                                  have HRM := Lib.hid hrm
                                  have HS1 := Lib.hid (fun W => size_in c hc5 W)
                                  have HS2 := Lib.hid (fun W => rsize_in c hc5 W)
                                  clear hrm
                                  generalize (ys c).length = yl at *
                                  go_wp2_with (first
                                    | (go_at_call 15; refine HRM.out.mono ?_; rintro e w9 ⟨rfl, hh⟩; subst w9)
                                    | (go_at_call 22; refine (HS1.out _).mono ?_; rintro e w9 ⟨rfl, hh⟩; subst w9)
                                    | (go_at_call 32; refine (HS2.out _).mono ?_; rintro e w9 ⟨rfl, hh⟩; subst w9)
                                    | fail)
                                  go_round
                                  case rel => exact ⟨c + 2, by omega, by go_num⟩
                                  case measure => simp only [intOf]; omega
                                · have hi6 : i = 0 ∨ i = 6 := by omega
                                  rcases hi6 with rfl | rfl
                                  · rw [show ((((0 : Nat) : Int)) - 1) = (-1) from rfl]
                                    have HRM := Lib.hid (fun W => room_out (.pointer (some ⟨B, 0, none⟩)) (-1) W (by omega))
                                    have HS1 := Lib.hid (fun W => size_out (-1) (by omega) W)
                                    have HS2 := Lib.hid (fun W => rsize_out (-1) (by omega) W)
                                    go_wp2_with (first
                                      | (go_at_call 15; refine (HRM.out _).mono ?_; rintro e w9 ⟨rfl, hh⟩; subst w9)
                                      | (go_at_call 22; refine (HS1.out _).mono ?_; rintro e w9 ⟨rfl, hh⟩; subst w9)
                                      | (go_at_call 32; refine (HS2.out _).mono ?_; rintro e w9 ⟨rfl, hh⟩; subst w9)
                                      | fail)
                                    go_round
                                    case rel => exact ⟨0 + 1, by omega, by rfl⟩
                                    case measure => simp only [intOf]; omega
                                  · rw [show ((((6 : Nat) : Int)) - 1) = 5 from rfl]
                                    have HRM := Lib.hid (fun W => room_out (.pointer (some ⟨B, 0, none⟩)) 5 W (by omega))
                                    have HS1 := Lib.hid (fun W => size_out 5 (by omega) W)
                                    have HS2 := Lib.hid (fun W => rsize_out 5 (by omega) W)
                                    go_wp2_with (first
                                      | (go_at_call 15; refine (HRM.out _).mono ?_; rintro e w9 ⟨rfl, hh⟩; subst w9)
                                      | (go_at_call 22; refine (HS1.out _).mono ?_; rintro e w9 ⟨rfl, hh⟩; subst w9)
                                      | (go_at_call 32; refine (HS2.out _).mono ?_; rintro e w9 ⟨rfl, hh⟩; subst w9)
                                      | fail)
                                    go_round
                                    case rel => exact ⟨6 + 1, by omega, by rfl⟩
                                    case measure => simp only [intOf]; omega
        · by_cases h0 : (j : Int) < n'
          · have h2 : ¬ (j : Int) < 60 := by omega
            go_wp2_with (first
              | (go_at_call 20; refine (arenaRuns_any _).mono ?_; rintro e w9 ⟨rfl, hb9⟩)
              | fail)
            go_ret
            exact ⟨rfl, HPL.out.bel.trans (hb9.mono HPL.out.bel.size)⟩
          · go_wp2_with (first
              | (go_at_call 20; refine (arenaRuns_any _).mono ?_; rintro e w9 ⟨rfl, hb9⟩)
              | fail)
            go_ret
            exact ⟨rfl, HPL.out.bel.trans (hb9.mono HPL.out.bel.size)⟩
end Go.Proofs.Ytndmpdpmfieacaa
