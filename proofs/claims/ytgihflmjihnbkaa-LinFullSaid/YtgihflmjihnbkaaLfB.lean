/-
  Replay over a list of done operations that leave no entries; conditions: lengths.
-/
import Derived.Test.YtgihflmjihnbkaaLfA
namespace Go.Proofs.Ytgihflmjihnbkaa
open Go Go.RowKit Go.WideShapes Go.ChangeShapes
set_option linter.all false
set_option maxRecDepth 100000 in
set_option maxHeartbeats 1600000 in
theorem replay_any (A : Option Addr) (n c : Nat) (ds : List D) (w : World) (hx : Reads w w.heap.size 10 A n (rowD ds)) (hn : n ≤ 1000) (hf : ∀ d ∈ ds, d ∈ few) (m : Nat) (hm : m ≤ n) (hgood : ∀ j, j < m → apB (ds.getD j dd) = true) (hbad : m < n → apB (ds.getD m dd) = false) (r : Int) (hr : r = if m = n then -1 else (m : Int)) :
    Calls Try.prog 5 #[.slice A n c] w fun e w' => e = .returned (.tuple #[.slice none 0 0, .int .i64 r]) ∧ Below w.heap.size w w' := by
  have HX := Lib.hid hx
  have HF := Lib.hid hf
  have HG := Lib.hid hgood
  have HB := Lib.hid hbad
  have HLN : Hid (ds.length = n) := Lib.hid (by have := hx.1; rw [rowD_len] at this; omega)
  have HR := Lib.hid hr
  clear hx hf hgood hbad hr
  go_enter Try.func5, Try.ntmps5
  go_wp2
  go_loopw [4, 11] (fun s i wr => ∃ j : Nat, i = .int .i64 j ∧ j ≤ m ∧ s = .slice none 0 0 ∧ Hid (Below w.heap.size w wr)) (fun _ i _ => n - (intOf i).toNat)
  case atStart => exact ⟨0, rfl, Nat.zero_le _, rfl, Lib.hid (Below.refl _ _)⟩
  case round =>
    obtain ⟨j, rfl, hj, rfl, HY⟩ := hrel
    have j0 : (0 : Int) ≤ j := by omega
    by_cases hlt : j < n
    · have hjl : j < ds.length := by rw [HLN.out]; exact hlt
      have hmem : ds.getD j dd ∈ ds := by rw [List.getD_eq_getElem?_getD, List.getElem?_eq_getElem hjl]; exact List.getElem_mem hjl
      obtain ⟨ad, rfl, hbl, hc⟩ := (HX.out.below HY.out).2 (by omega)
      have hat : ∀ f, f < 10 → ∀ u, (cD (ds.getD j dd))[f]? = some u → wr.cell? ((ad.add (j * 10)).add f) = some u := fun f hf u hu => by
        rw [add_of_add]
        exact hc _ _ ((rowD_at ds j f hjl hf).trans hu)
      have HA : Hid (∀ w1, Calls Try.prog 9 #[.slice none 0 0, vD (ds.getD j dd)] w1 fun e w' => e = .returned (.tuple #[.slice none 0 0, .bool (apB (ds.getD j dd))]) ∧ Below w1.heap.size w1 w') := Lib.hid (fun w1 => apply_any (HF.out _ hmem) w1)
      have HW : Hid (apB (ds.getD j dd) = decide (j < m)) := Lib.hid (by
        rcases Nat.lt_or_ge j m with h | h
        · rw [HG.out j h, decide_eq_true h]
        · obtain rfl : j = m := by omega
          rw [HB.out hlt, decide_eq_false (by omega)])
      obtain ⟨⟨k, e, v⟩, hd⟩ : ∃ d : D, d = ds.getD j dd := ⟨_, rfl⟩
      rw [← hd] at hat HA HW
      rw [HW.out] at HA
      unfold vD at HA
      have e0 : (ad.add (j * 10)).add 0 = ad.add (j * 10) := by simp [Addr.add]
      have f0 : wr.cell? (ad.add (j * 10)) = some (.int .i64 0) := by have := hat 0 (by omega) _ rfl; rw [e0] at this; exact this
      have f1 : wr.cell? ⟨(ad.add (j * 10)).block, (ad.add (j * 10)).off + 1, none⟩ = some (.int .i64 0) := hat 1 (by omega) _ rfl
      have f2 : wr.cell? ⟨(ad.add (j * 10)).block, (ad.add (j * 10)).off + 2, none⟩ = some (.int .i64 k) := hat 2 (by omega) _ rfl
      have f3 : wr.cell? ⟨(ad.add (j * 10)).block, (ad.add (j * 10)).off + 3, none⟩ = some (.string ⟨#[97]⟩) := hat 3 (by omega) _ rfl
      have f4 : wr.cell? ⟨(ad.add (j * 10)).block, (ad.add (j * 10)).off + 4, none⟩ = some (.string ⟨#[]⟩) := hat 4 (by omega) _ rfl
      have f5 : wr.cell? ⟨(ad.add (j * 10)).block, (ad.add (j * 10)).off + 5, none⟩ = some (.int .i64 0) := hat 5 (by omega) _ rfl
      have f6 : wr.cell? ⟨(ad.add (j * 10)).block, (ad.add (j * 10)).off + 6, none⟩ = some (.int .i64 e) := hat 6 (by omega) _ rfl
      have f7 : wr.cell? ⟨(ad.add (j * 10)).block, (ad.add (j * 10)).off + 7, none⟩ = some (.bool false) := hat 7 (by omega) _ rfl
      have f8 : wr.cell? ⟨(ad.add (j * 10)).block, (ad.add (j * 10)).off + 8, none⟩ = some (.int .i64 v) := hat 8 (by omega) _ rfl
      have f9 : wr.cell? ⟨(ad.add (j * 10)).block, (ad.add (j * 10)).off + 9, none⟩ = some (.slice none 0 0) := hat 9 (by omega) _ rfl
      clear e0
      clear hat hc hd hmem
      rcases Nat.lt_or_ge j m with hjm | hjm
      · rw [decide_eq_true hjm] at HA
        go_wp2_with (first
          | (go_at_call 9; refine (HA.out _).mono ?_; rintro e w2 ⟨rfl, hb⟩; have HY2 : Hid (Below w.heap.size w w2) := Lib.hid (HY.out.trans (((below_alloc wr _).trans (hb.mono (by simp))).mono HY.out.size)))
          | fail)
        go_roundw
        case rel => exact ⟨j + 1, by go_num, by omega, rfl, HY2⟩
        case measure => simp only [intOf]; omega
      · rw [decide_eq_false (by omega)] at HA
        obtain rfl : j = m := by omega
        go_wp2_with (first
          | (go_at_call 9; refine (HA.out _).mono ?_; rintro e w2 ⟨rfl, hb⟩; have HY2 : Hid (Below w.heap.size w w2) := Lib.hid (HY.out.trans (((below_alloc wr _).trans (hb.mono (by simp))).mono HY.out.size)))
          | fail)
        have hr := HR.out
        rw [if_neg (by omega)] at hr
        subst hr
        go_ret2
        exact ⟨rfl, HY2.out⟩
    · obtain rfl : m = j := by omega
      have hr := HR.out
      rw [if_pos (by omega)] at hr
      subst hr
      go_wp2
      go_ret2
      exact ⟨rfl, HY.out⟩
end Go.Proofs.Ytgihflmjihnbkaa
