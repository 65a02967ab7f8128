/-
  The law ScriptTerms at any int: the walk; condition: it is one.
-/
import Derived.Test.YtedjimkpmmacoaaGreatDoorScb
import Derived.Deep.CutBlock
import Derived.Deep.CutRange
import Derived.Test.YtedjimkpmmacoaaGreatDoorSR
namespace Go.Proofs.YtedjimkpmmacoaaGreatDoor
open Go.RowKit Go.WideShapes Go.ChangeShapes
set_option linter.all false
theorem tstr_256 (n : Int) : tstr (IntKind.i64.wrap (n + 256)) = tstr n := by
  have h : IntKind.i64.wrap (n + 256) % 256 = n % 256 := by
    rw [IntKind.wrap_i64]
    omega
  unfold tstr; rw [h]
theorem str_at {s : ByteArray} {L : List Int} (e : s = strOfNums L) (i : Nat) (h : i < s.size) (hb : 0 ≤ L.getD i 0 ∧ L.getD i 0 < 256) : ((s[i]'h).toNat : Int) = L.getD i 0 := by
  subst e
  have hl : i < L.length := by rw [strOfNums_size] at h; exact h
  have e1 : (strOfNums L)[i] = (strOfNums L).data.toList[i]'(by rw [strOfNums_data]; simpa using hl) := rfl
  rw [e1]
  simp only [strOfNums_data, List.getElem_map]
  rw [List.getD_eq_getElem?_getD, List.getElem?_eq_getElem hl] at hb ⊢
  simp only [Option.getD_some] at hb ⊢
  rw [UInt8.toNat_ofNat']
  omega
theorem tstr_256w (n : Int) : tstr (wrap64 (n + 256)) = tstr n := by
  have h : wrap64 (n + 256) % 256 = n % 256 := by
    unfold wrap64
    omega
  unfold tstr; rw [h]
set_option maxRecDepth 100000 in
set_option maxHeartbeats 1600000 in
theorem terms_any (n : Int) (w : World) : Calls Tryz.prog 5 #[.int .i64 n] w fun e w' => e = .returned (.bool true) ∧ Below w.heap.size w w' := by
  obtain ⟨k, hk⟩ : ∃ k : Nat, n % 256 = k := ⟨(n % 256).toNat, by have := Int.emod_nonneg n (show (256 : Int) ≠ 0 by decide); omega⟩
  have hk2 : k < 256 := by have := Int.emod_lt_of_pos n (show (0 : Int) < 256 by decide); omega
  have ha : bits .and .i64 n 255 = (k : Int) := by rw [and_low, hk]
  obtain ⟨L, hL⟩ : ∃ L, L = tl 4 k := ⟨_, rfl⟩
  have hT := tl_ok hk2
  obtain ⟨s, hs⟩ : ∃ s, s = tstr n := ⟨_, rfl⟩
  have hsL : s = strOfNums L := by rw [hs, hL]; unfold tstr; rw [hk]; rfl
  have HS := Lib.hid hs
  have HSL := Lib.hid hsL
  have HT : Hid (TlOk k) := Lib.hid hT
  have HL := Lib.hid hL
  have hsz : s.size = L.length := by rw [hsL, strOfNums_size]
  have q0 : ¬ (s.size : Int) < 1 := by have := hT.ge1; rw [← hL, ← hsz] at this; omega
  have q1 : ¬ (4 : Int) < (s.size : Int) := by have := hT.le4; rw [← hL, ← hsz] at this; omega
  have HSZ := Lib.hid hsz
  clear hs hsL hT hL hk hsz
  go_enter Tryz.func5, Tryz.ntmps5
  go_upto_region 2 with (first
    | (go_at_call 9; refine (term_any _ _).mono ?_; rintro e w1 ⟨rfl, hb1⟩; rw [← HS.out]; have HB1 := Lib.hid hb1; clear hb1)
    | fail)
  go_upto_region 4 with (first
    | (go_at_call 9; refine (term_any _ _).mono ?_; rintro e w2 ⟨rfl, hb2⟩; rw [tstr_256w, ← HS.out]; have HB2 := Lib.hid hb2; clear hb2)
    | fail)
  have hl1 : IntKind.i64.wrap ((s.size : Int) - 1) = (s.size : Int) - 1 := IntWalk.i64_in _ (by omega)
  have hl2 : wrap64 ((s.size : Int) - 1) = (s.size : Int) - 1 := IntWalk.wrap64_in _ (by omega)
  have HB : Hid (Below w.heap.size w w2) := Lib.hid (HB1.out.trans (HB2.out.mono HB1.out.size))
  go_wp2
  go_loopw [4, 5] (fun v i wr => ∃ j : Nat, j ≤ s.size ∧ i = .int .i64 ((j : Int) - 1) ∧ v = .int .i64 (vl (L.drop j)) ∧ Hid (Below w.heap.size w wr)) (fun _ i _ => (intOf i + 1).toNat)
  case atStart => exact ⟨s.size, Nat.le_refl _, rfl, by rw [HSZ.out, List.drop_eq_nil_of_le (Nat.le_refl _)]; rfl, HB⟩
  case round =>
    obtain ⟨j, hj, rfl, rfl, H⟩ := hrel
    by_cases hlt : 0 < j
    · obtain ⟨i, rfl⟩ : ∃ i, j = i + 1 := ⟨j - 1, by omega⟩
      have e1 : ((i + 1 : Nat) : Int) - 1 = (i : Int) := by omega
      rw [e1]
      have hi1 : (0 : Int) ≤ i := by omega
      have hi2 : (i : Int) < s.size := by omega
      obtain ⟨d, hd⟩ : ∃ d, d = L.getD i 0 := ⟨_, rfl⟩
      obtain ⟨v, hv⟩ : ∃ v, v = vl (L.drop (i + 1)) := ⟨_, rfl⟩
      rw [← hv]
      have hr := HT.out.rng i (by rw [← HL.out, ← HSZ.out]; omega)
      rw [← HL.out, ← hd] at hr
      have hin : i < s.size := by omega
      have hat : ((s[i]'hin).toNat : Int) = d := by rw [hd]; exact str_at HSL.out i hin (by rw [← hd]; omega)
      have c1 : ¬ ((s[i]'hin).toNat : Int) < 97 := by omega
      have c2 : ¬ (100 : Int) < ((s[i]'hin).toNat : Int) := by omega
      have hbd := HT.out.bnd (i + 1) (by omega)
      rw [← HL.out, ← hv] at hbd
      have hbd0 := HT.out.bnd i (by omega)
      have hvd : vl (L.drop i) = (d - 97) + 4 * v := by rw [hd, hv]; exact vl_drop L i (by rw [← HSZ.out]; omega)
      have HV : Hid (wrap64 (wrap64 (4 * v) + (((s[i]'hin).toNat : Int) - 97)) = vl (L.drop i)) := Lib.hid (by
        rw [hat, IntWalk.wrap64_in (4 * v) (by omega), IntWalk.wrap64_in _ (by omega), hvd]; omega)
      clear hvd hbd hbd0 hr hat hd hv
      go_wp2
      refine ⟨⟨i, by omega, rfl, by rw [HV.out], H⟩, ?_⟩
      simp only [intOf]; omega
    · obtain rfl : j = 0 := by omega
      have hv0 : vl (L.drop 0) = (k : Int) := by rw [List.drop_zero, HL.out]; exact HT.out.val
      rw [hv0]
      have e1 : ((0 : Nat) : Int) - 1 = -1 := rfl
      rw [e1]
      have hin : s.size - 1 < s.size := by omega
      have hbnd := HT.out.rng (s.size - 1) (by rw [← HL.out, ← HSZ.out]; exact hin)
      rw [← HL.out] at hbnd
      have hat : ((s[s.size - 1]'hin).toNat : Int) = L.getD (s.size - 1) 0 := str_at HSL.out _ hin (by omega)
      have hl3 : IntKind.i64.wrap ((s.size : Int) - 1) = (s.size : Int) - 1 := IntWalk.i64_in _ (by omega)
      have hi1 : (0 : Int) ≤ (s.size : Int) - 1 := by omega
      have hi2 : (s.size : Int) - 1 < s.size := by omega
      have hi3 : ((s.size : Int) - 1).toNat = s.size - 1 := by omega
      by_cases hone : s.size = 1
      · have h1 : (s.size : Int) = 1 := by omega
        have h1b : ((s.size : Int) == 1) = true := by simp [h1]
        clear hat hbnd
        go_wp2_with (first
          | (go_at_call 3; refine (scriptRuns_any _).mono ?_; rintro e w3 ⟨rfl, hb3⟩; have HB3 := Lib.hid hb3; clear hb3)
          | fail)
        go_ret
        exact ⟨rfl, H.out.trans (HB3.out.mono H.out.size)⟩
      · have htop : L.getD (s.size - 1) 0 ≠ 97 := by
          have := HT.out.top
          rw [← HL.out, ← HSZ.out] at this
          rcases this with q | q
          · exact absurd q hone
          · exact q
        have h1b : ((s.size : Int) == 1) = false := by simp; omega
        have h97 : (((s[s.size - 1]'hin).toNat : Int) != 97) = true := by rw [hat]; simpa using htop
        clear hat hbnd htop
        go_wp2_with (first
          | (go_at_call 3; refine (scriptRuns_any _).mono ?_; rintro e w3 ⟨rfl, hb3⟩; have HB3 := Lib.hid hb3; clear hb3)
          | fail)
        go_ret
        exact ⟨rfl, H.out.trans (HB3.out.mono H.out.size)⟩
end Go.Proofs.YtedjimkpmmacoaaGreatDoor
