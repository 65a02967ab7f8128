/-
  The law PoolSorts at any list of numbers; no condition.
-/
import Derived.Test.YtdkokpaboipamaaPm4
import Derived.Test.YtdkokpaboipamaaRuns
import Derived.Test.YtdkokpaboipamaaRd
namespace Go.Proofs.Ytdkokpaboipamaa
open Go.RowKit Go.WideShapes Go.ChangeShapes
set_option linter.all false
theorem ints_get {w : World} {B n : Nat} {A : Option Addr} {xs : List Int} (h : Reads w B 1 A n (ints xs)) {k : Nat} (hk : k < n) : ∃ ad, A = some ad ∧ ad.block < B ∧ w.cell? (ad.add k) = some (.int .i64 (xs[k]?.getD 0)) := by
  obtain ⟨ad, u, rfl, hb, hu, hc⟩ := h.at_ hk
  have hl : xs.length = n := by have := h.1; rw [ints_len] at this; omega
  rw [ints_at xs k (by omega)] at hu
  injection hu with hu
  exact ⟨ad, rfl, hb, by rw [hc, ← hu, List.getD_eq_getElem?_getD]⟩
theorem getD_mem (xs : List Int) (h : 0 < xs.length) : xs.getD 0 0 ∈ xs := by
  rw [List.getD_eq_getElem?_getD, List.getElem?_eq_getElem h]; exact List.getElem_mem _
theorem least_mem {xs : List Int} (h : Heaped xs xs.length) (x : Int) (hx : x ∈ xs) : xs.getD 0 0 ≤ x := by
  obtain ⟨i, hi, rfl⟩ := List.mem_iff_getElem.1 hx
  have := h.least i hi
  rwa [List.getD_eq_getElem?_getD (i := i), List.getElem?_eq_getElem hi] at this
set_option maxRecDepth 100000 in
set_option maxHeartbeats 1600000 in
theorem sorts_any (A : Option Addr) (len cap : Nat) (ls : List Int) (W : World) (hx : Reads W W.heap.size 1 A len (ints ls)) :
    Calls Try.prog 7 #[.slice A len cap] W fun e w' => e = .returned (.bool true) ∧ Below W.heap.size W w' := by
  have F1 : Hid True := trivial
  go_enter Try.func7, Try.ntmps7
  go_wp2_with (first
    | (go_at_call 19; refine (st_new 100 _ (by omega)).mono ?_; rintro e w1 ⟨P, rfl, hS0, hB0⟩)
    | fail)
  go_loopw [5, 6] (fun n i wr => ∃ (k : Nat) (xs : List Int) (v : Value), i = .int .i64 k ∧ n = .int .i64 xs.length ∧ xs.length ≤ k ∧ k ≤ 100 ∧ St W.heap.size P W.heap.size 100 v xs wr ∧ Below W.heap.size W wr) (fun _ i _ => 100 - (intOf i).toNat)
  case atStart => exact ⟨0, [], _, rfl, rfl, by simp, by omega, hS0, hB0⟩
  case round =>
    obtain ⟨k, xs, v, rfl, rfl, hxk, hk, hS, hB⟩ := hrel
    by_cases hin : k < len ∧ k < 100
    · obtain ⟨h1, h2⟩ := hin
      obtain ⟨ad, rfl, hab, hc⟩ := ints_get hx h1
      have hc' : wr.cell? (ad.add k) = some (.int .i64 (ls[k]?.getD 0)) := (hB.cell (by rw [block_of_add]; exact hab)).trans hc
      obtain ⟨m, hm, hm9⟩ := withinV_nat (ls[k]?.getD 0) 100 (by omega)
      have hm' : withinV (ls[k]?.getD 0) (99 + 1) = m := hm
      have HM := Lib.hid hm'
      clear hm hm' hc
      by_cases hmem : (m : Int) ∈ xs
      · have HE := Lib.hid hmem
        clear hmem
        go_wp2_with (first
          | (go_at_call 18; refine (within_any _ 99 (by omega) (by omega) _).mono ?_; rintro e w1 ⟨rfl, rfl⟩; rw [HM.out])
          | (go_at_call 25; refine (st_has hS m hm9 true (decide_eq_true HE.out)).mono ?_; rintro e w2 ⟨rfl, rfl⟩)
          | (go_at_call 21; refine (st_put_no hS m hm9 HE.out).mono ?_; rintro e w3 ⟨rfl, rfl⟩)
          | fail)
        go_roundw
        case rel => exact ⟨k + 1, xs, v, by go_num, rfl, by omega, by omega, hS, hB⟩
        case measure => simp only [intOf]; omega
      · have HE := Lib.hid hmem
        clear hmem
        go_wp2_with (first
          | (go_at_call 18; refine (within_any _ 99 (by omega) (by omega) _).mono ?_; rintro e w1 ⟨rfl, rfl⟩; rw [HM.out])
          | (go_at_call 25; clear F1; refine (st_has hS m hm9 false (decide_eq_false HE.out)).mono ?_; rintro e w2 ⟨rfl, rfl⟩)
          | (go_at_call 21; refine (st_put_yes hS m hm9 HE.out (by omega)).mono ?_; rintro e w3 ⟨rfl, v', hS', hK⟩; have hB' := hK.below hS hB)
          | (go_at_call 25; refine (st_has hS' m hm9 true (decide_eq_true ((pushF_perm xs m).mem_iff.2 (List.mem_cons_self)))).mono ?_; rintro e w2 ⟨rfl, rfl⟩)
          | fail)
        go_roundw
        case rel => exact ⟨k + 1, pushF xs m, v', by go_num, by rw [pushF_len]; go_num, by rw [pushF_len]; omega, by omega, hS', hB'⟩
        case measure => simp only [intOf]; omega
    · have HI := Lib.hid hin
      clear hin
      go_wp2
      all_goals first
        | (exfalso; have := HI.out; omega)
        | skip
      all_goals
        go_loopw [5, 9] (fun n l ws => ∃ (xs : List Int) (v : Value) (lst : Int), n = .int .i64 xs.length ∧ l = .int .i64 lst ∧ xs.length ≤ 100 ∧ Hid (∀ x ∈ xs, lst < x) ∧ St W.heap.size P W.heap.size 100 v xs ws ∧ Below W.heap.size W ws) (fun n _ _ => (intOf n).toNat)
        case atStart => exact ⟨xs, v, -1, rfl, rfl, by omega, (fun x hx => by have := hS.rng x hx; omega), hS, hB⟩
        case round =>
          clear HI
          obtain ⟨ys, v, lst, rfl, rfl, hyk, HL, hS, hB⟩ := hrel
          by_cases h0 : ys = []
          · subst h0
            go_wp2_with (first
              | (go_at_call 23; refine (st_take_no hS).mono ?_; rintro e w1 ⟨rfl, rfl⟩)
              | (go_at_call 20; refine (poolRuns_any _).mono ?_; rintro e w9 ⟨rfl, hb9⟩)
              | fail)
            go_ret
            exact ⟨rfl, hB.trans (hb9.mono hB.size)⟩
          · have hlen := List.length_pos_iff.2 h0
            have hp0 := getD_mem ys hlen
            have hr := hS.rng _ hp0
            have hl0 := HL.out _ hp0
            have hmin := least_mem hS.heap
            obtain ⟨m, hm⟩ := Int.eq_ofNat_of_zero_le hr.1
            rw [hm] at hr hl0 hmin
            have hmem := popF_mem ys h0 hS.nodup
            rw [hm] at hmem
            have hpl := popF_len ys h0
            have hl2 : lst < (m : Int) := hl0
            have hl3 : ¬ ((m : Int) ≤ lst) := by omega
            have hnm : (m : Int) ∉ popF ys := fun h => ((hmem _).1 h).2 rfl
            have hT := st_take hS h0 (by omega) m hm
            have hm9 : m < 100 := by omega
            have HMin := Lib.hid hmin
            have HMem := Lib.hid hmem
            have HP := Lib.hid hpl
            have HN := Lib.hid hnm
            have H0 := Lib.hid h0
            clear hmin hmem hpl hnm hm hp0 hr h0
            have hlen0 : ¬ ((ys.length : Int) ≤ 0) := by omega
            have hlen1 : (0 : Int) < ys.length := by omega
            go_wp2_with (first
              | (go_at_call 23; refine hT.mono ?_; rintro e w1 ⟨rfl, v', hS', hK⟩; have hB' := hK.below hS hB)
              | (go_at_call 25; refine (st_has hS' m hm9 false (decide_eq_false HN.out)).mono ?_; rintro e w2 ⟨rfl, rfl⟩)
              | (go_at_call 26; refine (st_len hS').mono ?_; rintro e w3 ⟨rfl, rfl⟩; rw [HP.out, show ((ys.length - 1 : Nat) : Int) = (ys.length : Int) - 1 from by omega])
              | fail)
            go_roundw
            case rel => exact ⟨popF ys, v', m, by rw [HP.out]; congr 1; omega, rfl, by rw [HP.out]; omega, (fun x hx => by have h1 := (HMem.out x).1 hx; have h2 := HMin.out x h1.1; omega), hS', hB'⟩
            case measure => simp only [intOf]; omega
end Go.Proofs.Ytdkokpaboipamaa
