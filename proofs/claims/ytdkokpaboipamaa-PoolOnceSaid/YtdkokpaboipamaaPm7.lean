/-
  The law PoolOnce at any calls: the walk; no condition.
-/
import Derived.Test.YtdkokpaboipamaaPm6
import Derived.Deep.RegionHeld3
namespace Go.Proofs.Ytdkokpaboipamaa
open Go.RowKit Go.WideShapes Go.ChangeShapes
set_option linter.all false
theorem add_one_addr (a : Addr) : a.add 1 = ⟨a.block, a.off + 1, none⟩ := rfl
theorem heap_alloc_other (w : World) (o : Obj) (b : Nat) (h : b ≠ w.heap.size) : (w.alloc o).heap[b]? = w.heap[b]? := by
  rcases Nat.lt_or_ge b w.heap.size with h1 | h1
  · exact Below.heap_alloc w o b h1
  · have h2 : (w.alloc o).heap.size = w.heap.size + 1 := by simp
    rw [Array.getElem?_eq_none (by omega), Array.getElem?_eq_none (by omega)]
theorem Once.drew {W : World} {P Q : Nat} {v : Value} {xs : List Int} {w : World} (h : Once W P Q v xs w) : Once W P Q v xs w.drew := ⟨h.st.drew, ⟨h.arr.cell, h.arr.free⟩, h.hq, h.far, h.bel.drew⟩
theorem Once.put {W : World} {P Q : Nat} {v v' : Value} {xs ys : List Int} {w w' : World} (h : Once W P Q v xs w) (hk : Kept P W.heap.size v v' w w') (hs : St W.heap.size P W.heap.size 32 v' ys w') (m : Nat) (hm : m < 32) :
    w'.cell? ⟨Q, m, none⟩ = some (.bool (decide ((m : Int) ∈ xs))) ∧ w'.frozen? ⟨Q, m, none⟩ = false :=
  ⟨(World.cell?_of_block (a := ⟨Q, m, none⟩) (h.same_q hk)).trans (h.arr.cell m hm), (World.frozen?_of_block (a := ⟨Q, m, none⟩) (h.same_q hk)).trans (h.arr.free m hm)⟩
set_option maxRecDepth 100000 in
set_option maxHeartbeats 1600000 in
theorem once_any (A : Option Addr) (len cap : Nat) (F G : Nat → Int) (W : World) (hx : Pairs W A len F G) :
    Calls Try.prog 8 #[.slice A len cap] W fun e w' => e = .returned (.bool true) ∧ Below W.heap.size W w' := by
  have F1 : Hid True := trivial
  go_enter Try.func8, Try.ntmps8
  go_wp2_with (first
    | (go_at_call 19; refine (st_new 32 _ (by omega)).mono ?_; rintro e w1 ⟨P, rfl, hS0, hB0⟩)
    | fail)
  go_loopw [6, 7] (fun n i wr => ∃ (k : Nat) (xs : List Int) (v : Value), i = .int .i64 k ∧ n = .int .i64 xs.length ∧ xs.length ≤ k ∧ k ≤ 120 ∧ Once W P w1.heap.size v xs wr) (fun _ i _ => 120 - (intOf i).toNat)
  case atStart =>
    have lP : P < w1.heap.size := World.block_lt_of_cell? w1 _ hS0.hp.cell
    refine ⟨0, [], _, rfl, rfl, by simp, by omega, ⟨hS0.same (Q := w1.heap.size) (fun b hb => heap_alloc_other w1 _ b hb) (by omega) (by have := hS0.hI; omega) (by simp [Value.ownBlock]), ⟨fun j hj => ?_, fun j hj => World.frozen?_alloc_at _ _ _ _ rfl⟩, lP, by simp [Value.ownBlock], hB0.alloc hB0.size _⟩⟩
    rw [World.cell?_alloc_at _ _ _ _ rfl]
    have : j = 0 ∨ j = 1 ∨ j = 2 ∨ j = 3 ∨ j = 4 ∨ j = 5 ∨ j = 6 ∨ j = 7 ∨ j = 8 ∨ j = 9 ∨ j = 10 ∨ j = 11 ∨ j = 12 ∨ j = 13 ∨ j = 14 ∨ j = 15 ∨ j = 16 ∨ j = 17 ∨ j = 18 ∨ j = 19 ∨ j = 20 ∨ j = 21 ∨ j = 22 ∨ j = 23 ∨ j = 24 ∨ j = 25 ∨ j = 26 ∨ j = 27 ∨ j = 28 ∨ j = 29 ∨ j = 30 ∨ j = 31 := by omega
    rcases this with rfl | rfl | rfl | rfl | rfl | rfl | rfl | rfl | rfl | rfl | rfl | rfl | rfl | rfl | rfl | rfl | rfl | rfl | rfl | rfl | rfl | rfl | rfl | rfl | rfl | rfl | rfl | rfl | rfl | rfl | rfl | rfl <;> rfl
  case round =>
    generalize hQ : w1.heap.size = Q at *
    obtain ⟨k, xs, v, rfl, rfl, hxk, hk, hO⟩ := hrel
    by_cases hin : k < len ∧ k < 120
    · obtain ⟨h1, h2⟩ := hin
      obtain ⟨ad, rfl, hab, hc0, hc1⟩ := hx k h1
      have hc0' : wr.cell? (ad.add (k * 2)) = some (.int .i64 (F k)) := (hO.bel.cell (by rw [block_of_add]; exact hab)).trans hc0
      have hc1' : wr.cell? ⟨(ad.add (k * 2)).block, (ad.add (k * 2)).off + 1, none⟩ = some (.int .i64 (G k)) := by
        rw [← add_one_addr, add_of_add]; exact (hO.bel.cell (by rw [block_of_add]; exact hab)).trans hc1
      clear hc0 hc1
      have hx120 : xs.length < 900000 := by omega
      have hS := hO.st
      by_cases he : (F k).tmod 2 = 0
      · have he1 : ((F k).tmod 2 == 0) = true := by simp [he]
        clear he
        obtain ⟨m, hm, hm9⟩ := withinV_nat (G k) 32 (by omega)
        have hm' : withinV (G k) (31 + 1) = m := hm
        have HM := Lib.hid hm'
        clear hm hm'
        have hq := hO.arr.cell m hm9
        have hqf := hO.arr.free m hm9
        have hmi0 : (0 : Int) ≤ (m : Int) := by omega
        have hmi1 : (m : Int) < 32 := by omega
        by_cases hmem : (m : Int) ∈ xs
        · rw [decide_eq_true hmem] at hq
          have HE := Lib.hid hmem
          clear hmem
          go_wp2_with (first
            | (go_at_call 18; refine (within_any _ 31 (by omega) (by omega) _).mono ?_; rintro e w1 ⟨rfl, rfl⟩; rw [HM.out])
            | fail)
          go_region_held3 (fun w' => w'.cell? ⟨Q, m, none⟩ = some (.bool true)) (go_keep)
            (first | (go_at_call 21; refine (st_put_no (w := _) hS.drew m hm9 HE.out).mono ?_; rintro e w' ⟨rfl, rfl⟩))
          all_goals
            have hS1 := hS.drew
            go_wp2_with (first
              | (go_at_call 26; refine (st_len hS1).mono ?_; rintro e w3 ⟨rfl, rfl⟩)
              | fail)
            go_roundw
            case rel => exact ⟨k + 1, xs, v, by go_num, rfl, by omega, by omega, hO.drew⟩
            case measure => simp only [intOf]; omega
        · rw [decide_eq_false hmem] at hq
          have HE := Lib.hid hmem
          clear hmem
          go_wp2_with (first
            | (go_at_call 18; refine (within_any _ 31 (by omega) (by omega) _).mono ?_; rintro e w1 ⟨rfl, rfl⟩; rw [HM.out])
            | fail)
          go_region_held3 (fun w' => w'.cell? ⟨Q, m, none⟩ = some (.bool false)) (first | assumption | go_keep)
            (first | (go_at_call 21; refine (st_put_yes hS.drew m hm9 HE.out hx120).mono ?_; rintro e w3 ⟨rfl, v', hS', hK⟩; obtain ⟨hq3, hqf3⟩ := hO.drew.put hK hS' m hm9; rw [decide_eq_false HE.out] at hq3))
          all_goals
            have hT := hO.drew.step hK hS' m hm9 true (decide_eq_true ((pushF_perm xs m).mem_iff.2 List.mem_cons_self)) (fun j hj => by rw [(pushF_perm xs m).mem_iff, List.mem_cons]; exact ⟨fun h => by rcases h with h | h; exact absurd h (by omega); exact h, .inr⟩)
            go_wp2_with (first
              | (go_at_call 26; refine (st_len hT.st).mono ?_; rintro e w4 ⟨rfl, rfl⟩; rw [pushF_len, show ((xs.length + 1 : Nat) : Int) = (xs.length : Int) + 1 from by omega])
              | fail)
            go_roundw
            case rel => exact ⟨k + 1, pushF xs m, v', by go_num, by rw [pushF_len]; go_num, by rw [pushF_len]; omega, by omega, hT⟩
            case measure => simp only [intOf]; omega
      · have he1 : ((F k).tmod 2 == 0) = false := by simp [he]
        clear he
        by_cases h0 : xs = []
        · subst h0
          go_wp2_with (first
            | (go_at_call 23; refine (st_take_no hS).mono ?_; rintro e w1 ⟨rfl, rfl⟩)
            | (go_at_call 26; refine (st_len hS).mono ?_; rintro e w4 ⟨rfl, rfl⟩)
            | fail)
          go_roundw
          case rel => exact ⟨k + 1, [], v, by go_num, rfl, by simp, by omega, hO⟩
          case measure => simp only [intOf]; omega
        · have hlen := List.length_pos_iff.2 h0
          have hp0 := getD_mem xs hlen
          have hr := hS.rng _ hp0
          have hmin := least_mem hS.heap
          obtain ⟨m, hm⟩ := Int.eq_ofNat_of_zero_le hr.1
          rw [hm] at hr hmin
          have hmx : (m : Int) ∈ xs := by rw [← hm]; exact hp0
          have hmem := popF_mem xs h0 hS.nodup
          rw [hm] at hmem
          have hpl := popF_len xs h0
          have hnm : (m : Int) ∉ popF xs := fun h => ((hmem _).1 h).2 rfl
          have hT := st_take hS h0 hx120 m hm
          have hm9 : m < 32 := by omega
          have HMin := Lib.hid hmin
          have HMem := Lib.hid hmem
          have HP := Lib.hid hpl
          have HN := Lib.hid hnm
          have H0 := Lib.hid h0
          have HX := Lib.hid hmx
          clear hmin hmem hpl hnm hm hp0 hr h0 hmx
          have hlen0 : ¬ ((xs.length : Int) ≤ 0) := by omega
          have hlen1 : (0 : Int) < xs.length := by omega
          have hmi0 : (0 : Int) ≤ (m : Int) := by omega
          have hmi1 : (m : Int) < 32 := by omega
          have hmi2 : ¬ ((m : Int) < 0) := by omega
          have hmi3 : ¬ (31 < (m : Int)) := by omega
          have hmi4 : ¬ ((m : Int) > 31) := by omega
          go_wp2_with (first
            | (go_at_call 23; refine hT.mono ?_; rintro e w3 ⟨rfl, v', hS', hK⟩; have hq3 := (hO.put hK hS' m hm9).1; rw [decide_eq_true HX.out] at hq3; have hqf3 := (hO.put hK hS' m hm9).2)
            | fail)
          all_goals
            have hA3 := Lib.hid (hO.arr.at_ (hO.same_q hK))
            have hT2 := hO.step hK hS' m hm9 false (decide_eq_false HN.out) (fun j hj => by rw [HMem.out]; exact ⟨fun h => h.1, fun h => ⟨h, by omega⟩⟩)
            go_loop [11] (fun j => ∃ i : Nat, i ≤ m ∧ j = .int .i64 i) (fun j => m - (intOf j).toNat)
            case atStart => exact ⟨0, by omega, rfl⟩
            case round =>
              obtain ⟨i, hi, rfl⟩ := hrel
              by_cases hlt : i < m
              · have hci := hA3.out.cell i (by omega)
                rw [decide_eq_false (fun h => by have := HMin.out _ h; omega)] at hci
                have hi0 : (0 : Int) ≤ (i : Int) := by omega
                have hi1 : (i : Int) < 32 := by omega
                have hi2 : (i : Int) < (m : Int) := by omega
                clear hq3
                go_wp2
                go_round
                case rel => exact ⟨i + 1, by omega, by go_num⟩
                case measure => simp only [intOf]; omega
              · have hi2 : ¬ (i : Int) < (m : Int) := by omega
                go_wp2_with (first
                  | (go_at_call 26; refine (st_len hT2.st).mono ?_; rintro e w4 ⟨rfl, rfl⟩; rw [HP.out, show ((xs.length - 1 : Nat) : Int) = (xs.length : Int) - 1 from by omega])
                  | fail)
                go_roundw
                case rel => exact ⟨k + 1, popF xs, v', by go_num, by rw [HP.out]; congr 1; omega, by rw [HP.out]; omega, by omega, hT2⟩
                case measure => simp only [intOf]; omega
    · have HI := Lib.hid hin
      clear hin
      go_wp2_with (first
        | (go_at_call 20; refine (poolRuns_any _).mono ?_; rintro e w9 ⟨rfl, hb9⟩)
        | fail)
      all_goals first
        | (exfalso; have := HI.out; omega)
        | (go_ret; exact ⟨rfl, hO.bel.trans (hb9.mono hO.bel.size)⟩)
end Go.Proofs.Ytdkokpaboipamaa
