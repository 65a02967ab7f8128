/-
  ArenaNew at any numbers and any ref; no condition.
-/
import Derived.Test.YtndmpdpmfieacaaArC
import Derived.Test.YtndmpdpmfieacaaRuns
import Derived.Deep.RegionHeld3
namespace Go.Proofs.Ytndmpdpmfieacaa
open Go.RowKit Go.WideShapes Go.ChangeShapes
set_option linter.all false
theorem Fr.free {ns : Nat → Nat} {sl : List Sl} {xs : Nat → List Int} (h : Fr ns 5 0 sl xs) : ∀ q, q ≤ 5 → freeN xs q = sumN ns q
  | 0, _ => rfl
  | q + 1, hq => by
    show freeN xs q + (xs q).length = sumN ns q + ns q
    rw [Fr.free h q (by omega), h.cnt q, if_pos (by omega)]
theorem Fr.none {ns : Nat → Nat} {sl : List Sl} {xs : Nat → List Int} (h : Fr ns 5 0 sl xs) (r : Int) : ∃ z, Why sl r z ∧ (z = 1 ∨ z = 3 ∨ z = 4) := by
  rcases why_or sl r with h1 | ⟨i, h1⟩
  · exact h1
  · have := (h.all i h1.lt).2
    rw [h1.live] at this
    cases this
theorem ns_of (a : Nat → Int) : ∃ ns : Nat → Nat, (∀ i, withinV (a i) 6 = (ns i : Int)) ∧ (∀ i, ns i ≤ 5) := by
  refine ⟨fun i => (withinV (a i) 6).toNat, fun i => ?_, fun i => ?_⟩
  · have := withinV_in (a i) 6 (by omega); show _ = (((withinV (a i) 6).toNat : Nat) : Int); omega
  · have := withinV_in (a i) 6 (by omega); show (withinV (a i) 6).toNat ≤ 5; omega
set_option maxRecDepth 100000 in
set_option maxHeartbeats 6400000 in
theorem arenaNew_any (a : Nat → Int) (r : Int) (w : World) : Calls Try.prog 3 #[.agg (five a), .int .i64 r] w fun e w' => e = .returned (.bool true) ∧ Below w.heap.size w w' := by
  obtain ⟨ns, hns, hle⟩ := ns_of a
  have hcn : ∀ W, Calls Try.prog 12 #[.agg (five a)] W fun e w' => e = .returned (nsV ns) ∧ Below W.heap.size W w' := fun W => by
    have := counts_any a W
    rw [show (fun i => withinV (a i) 6) = (fun i => (ns i : Int)) from funext hns] at this
    exact this
  have hk : sumN ns 5 ≤ 25 := by
    have := hle 0; have := hle 1; have := hle 2; have := hle 3; have := hle 4
    simp only [sumN]; omega
  have HC := Lib.hid hcn
  have HLE := Lib.hid hle
  obtain ⟨K, hK⟩ : ∃ K, K = sumN ns 5 := ⟨_, rfl⟩
  have hnew := fun W => arena_new ns (by omega) W
  rw [← hK] at hnew hk
  have HN := Lib.hid hnew
  have HK := Lib.hid hK
  clear hcn hns hle hnew hK
  rw [show (Value.agg (five a)) = .agg #[.int .i64 (a 0), .int .i64 (a 1), .int .i64 (a 2), .int .i64 (a 3), .int .i64 (a 4)] from rfl] at HC ⊢
  unfold nsV at HC HN
  go_enter Try.func3, Try.ntmps3
  go_upto_region 2 with (first
    | (go_at_call 12; refine (HC.out _).mono ?_; rintro e w1 ⟨rfl, hb1⟩
       have HB1 := Lib.hid hb1
       clear hb1)
    | fail)
  obtain ⟨g, hg⟩ : ∃ g, g = w1.heap.size := ⟨_, rfl⟩
  obtain ⟨W2, hW2⟩ : ∃ W2 : World, W2 = w1.alloc (.cells #[.int .i64 (ns 0 : Nat), .int .i64 (ns 1 : Nat), .int .i64 (ns 2 : Nat), .int .i64 (ns 3 : Nat), .int .i64 (ns 4 : Nat)] 22) := ⟨_, rfl⟩
  have h2 : W2.heap[g]? = some (.cells #[.int .i64 (ns 0 : Nat), .int .i64 (ns 1 : Nat), .int .i64 (ns 2 : Nat), .int .i64 (ns 3 : Nat), .int .i64 (ns 4 : Nat)] 22 (0, 0)) := by rw [hW2, hg]; exact heap_alloc_new w1 _
  have HB2 : Hid (Below w.heap.size w W2) := Lib.hid (by
    have b0 := below_alloc w (.cells #[.int .i64 (a 0), .int .i64 (a 1), .int .i64 (a 2), .int .i64 (a 3), .int .i64 (a 4)] 22)
    have b1 := b0.trans (HB1.out.mono b0.size)
    rw [hW2]; exact b1.trans ((below_alloc w1 _).mono b1.size))
  have HG : Hid (g < W2.heap.size) := Lib.hid (lt_of_heap h2)
  rw [← hW2, ← hg]
  clear hW2 hg HB1
  have d0 := cell_of h2 0
  have d1 := cell_of h2 1
  have d2 := cell_of h2 2
  have d3 := cell_of h2 3
  have d4 := cell_of h2 4
  simp only [List.getElem?_toArray, List.getElem?_cons_zero, List.getElem?_cons_succ] at d0 d1 d2 d3 d4
  have H2 := Lib.hid h2
  clear h2
  go_upto_region 3 with (first
    | (go_at_call 13; refine (HN.out _).mono ?_; rintro e w3 ⟨B, S, sl, P, I, V, xs, rfl, ha, hb, hf⟩
       have HA := Lib.hid ha
       have HB3 := Lib.hid hb
       have HF := Lib.hid hf
       clear ha hb hf)
    | fail)
  clear d0 d1 d2 d3 d4
  have hl : sl.length = K := by have := HF.out.len; have := HK.out; omega
  have hfree : freeN xs 5 = K := by rw [HF.out.free 5 (Nat.le_refl _), HK.out]
  have hlv := live_any HA.out (by omega) (by omega)
  rw [hl, hfree, Int.sub_self] at hlv
  have HLV := Lib.hid hlv
  have HL := Lib.hid hl
  have H3 : Hid (w3.heap[g]? = some (.cells (five fun i => (ns i : Int)) 22 (0, 0))) := Lib.hid ((HB3.out.block g HG.out).trans H2.out)
  clear hl hfree hlv
  go_wp2_with (first
    | (go_at_call 14; refine HLV.out.mono ?_; rintro e w9 ⟨rfl, hh⟩; subst w9)
    | fail)
  go_loopw [31] (fun i W => ∃ c : Nat, i = .int .i64 c ∧ c ≤ 5 ∧ Hid (Below w3.heap.size w3 W)) (fun i _ => 5 - (intOf i).toNat)
  case atStart => exact ⟨0, rfl, Nat.zero_le _, Lib.hid (Below.refl _ _)⟩
  case round =>
    obtain ⟨c, rfl, hc, HBW⟩ := hrel
    have c0 : (0 : Int) ≤ c := by omega
    have HA4 := Lib.hid (HA.out.on HBW.out)
    have HBB := Lib.hid ((HB2.out.trans (HB3.out.mono HB2.out.size)).trans (HBW.out.mono (Nat.le_trans HB2.out.size HB3.out.size)))
    by_cases h5 : c < 5
    · have c5 : (c : Int) < 5 := by omega
      have d0 : wr.cell? ⟨g, c, none⟩ = some (.int .i64 (ns c : Nat)) := by rw [cell_of ((HBW.out.block g (by have := HG.out; have := HB3.out.size; omega)).trans H3.out), five_at _ h5]
      have hcnt : (xs c).length = ns c := by rw [HF.out.cnt c, if_pos h5]
      have HCN := Lib.hid hcnt
      clear hcnt
      go_upto_region 8 with (fail)
      go_region_held3 (fun W' => W'.cell? ⟨g, c, none⟩ = some (.int .i64 (ns c : Nat))) (first | (go_keep; done) | exact d0) (first
        | (go_at_call 15; refine (room_in (HA4.out.on (by first | exact Below.refl _ _ | exact below_drew _)) c h5).mono ?_; rw [HCN.out]; rintro e w9 ⟨rfl, hh⟩; subst w9)
        | fail)
      all_goals
        go_wp2
        go_roundw
        case rel => exact ⟨c + 1, by go_num, by omega, Lib.hid (HBW.out.trans ((below_drew _).mono HBW.out.size))⟩
        case measure => simp only [intOf]; omega
    · obtain rfl : c = 5 := by omega
      obtain ⟨z, hz, hz3⟩ := HF.out.none r
      have hn : sl.length ≤ 1024 := by have := HL.out; omega
      have HLD := Lib.hid (load_no HA4.out hn hz)
      have HSW := Lib.hid (swap_no HA4.out hn hz 0 none 0 0)
      have HFR := Lib.hid (free_no HA4.out hn hz)
      have HST := Lib.hid (store_no HA4.out hn hz none 0 0)
      clear hz
      rcases hz3 with rfl | rfl | rfl
      all_goals
        go_wp2_with (first
          | (go_at_call 16; refine HLD.out.mono ?_; rintro e w9 ⟨rfl, hh⟩; subst w9)
          | (go_at_call 17; refine HSW.out.mono ?_; rintro e w9 ⟨rfl, hh⟩; subst w9)
          | (go_at_call 18; refine HFR.out.mono ?_; rintro e w9 ⟨rfl, hh⟩; subst w9)
          | (go_at_call 19; refine HST.out.mono ?_; rintro e w9 ⟨rfl, hh⟩; subst w9)
          | (go_at_call 20; refine (arenaRuns_any _).mono ?_; rintro e w9 ⟨rfl, hb9⟩)
          | fail)
        go_ret
        exact ⟨rfl, HBB.out.trans (hb9.mono HBB.out.size)⟩
end Go.Proofs.Ytndmpdpmfieacaa
