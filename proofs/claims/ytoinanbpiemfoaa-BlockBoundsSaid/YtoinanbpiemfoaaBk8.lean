/-
  Decode of the document: what it tells of any bytes; conditions: lengths.
-/
import Derived.Test.YtoinanbpiemfoaaBk7
import Derived.Deep.CutBlock
import Derived.Deep.CutRange
namespace Go.Proofs.Ytoinanbpiemfoaa
open Go.RowKit Go.WideShapes Go.ChangeShapes
set_option linter.all false
theorem numR_end {bs : List Nat} {i k a : Nat} (h : i = bs.length) : numR (bs.drop i) k a = none := by rw [h, List.drop_length, numR]
theorem numR_five {bs : List Nat} {a : Nat} : numR bs 5 a = none := by cases bs <;> simp [numR]
theorem numR_last {bs : List Nat} {j i a : Nat} (h : j < bs.length) (hi : i < 5) (hc : bs.getD j 0 < 128) (h0 : ¬ (bs.getD j 0 = 0 ∧ 0 < i)) : numR (bs.drop j) i a = some (a + bs.getD j 0 % 128 * 128 ^ i, i + 1) := by
  rw [ndrop_at h, numR, if_neg (by omega), if_pos hc, if_neg h0]
theorem numR_zero {bs : List Nat} {j i a : Nat} (h : j < bs.length) (hi : i < 5) (hc : bs.getD j 0 = 0) (h0 : 0 < i) : numR (bs.drop j) i a = none := by
  rw [ndrop_at h, numR, if_neg (by omega), if_pos (by omega), if_pos ⟨hc, h0⟩]
theorem numR_more {bs : List Nat} {j i a : Nat} (h : j < bs.length) (hi : i < 5) (hc : ¬ bs.getD j 0 < 128) : numR (bs.drop j) i a = numR (bs.drop (j + 1)) (i + 1) (a + bs.getD j 0 % 128 * 128 ^ i) := by
  rw [ndrop_at h, numR, if_neg (by omega), if_neg hc]
theorem pow_step (a c i : Nat) (ha : a < 128 ^ i) : a + c % 128 * 128 ^ i < 128 ^ (i + 1) := by
  have hm : c % 128 < 128 := Nat.mod_lt _ (by omega)
  have : c % 128 * 128 ^ i ≤ 127 * 128 ^ i := Nat.mul_le_mul_right _ (by omega)
  rw [Nat.pow_succ]; omega
/-- The least that may follow. -/
def pq (acc : List Nat) : Nat := if acc.length = 0 then 0 else acc.getD (acc.length - 1) 0 + 1
theorem pq_snoc (acc : List Nat) (x : Nat) : pq (acc ++ [x]) = x + 1 := by
  unfold pq
  rw [if_neg (by simp)]
  simp
theorem decR_of {bs acc : List Nat} (h : readR bs 0 [] = some acc) : decR bs = if acc = [] then none else some acc := by
  unfold decR; rw [h]
theorem decR_no {bs : List Nat} (h : readR bs 0 [] = none) : decR bs = none := by unfold decR; rw [h]
/-- Behind the inner loop: the number and its bytes. -/
def NumAt (bs : List Nat) (at_ n : Nat) (s6 s7 : Value) : Prop := ∃ m sz : Nat, s6 = .int .i64 m ∧ s7 = .int .i64 sz ∧ numR (bs.drop at_) 0 0 = some (m, sz) ∧ m < 34359738368 ∧ 1 ≤ sz ∧ sz ≤ 5 ∧ at_ + sz ≤ n
set_option maxRecDepth 100000 in
set_option maxHeartbeats 3200000 in
theorem rdecode_any (A : Option Addr) (n c : Nat) (bs : List Nat) (w : World) (hx : Reads w w.heap.size 1 A n (ks .u8 (nb bs))) (hb : ∀ b ∈ bs, b < 256) (hc : n ≤ c) (hn : n ≤ 1000) :
    Calls Try.prog 9 #[.slice A n c] w (DecPost (decR bs) w) := by
  obtain ⟨i0, hi0, hz0, hz1, hz2⟩ := info_parts infoI
  have LX : Hid (bs.length = n) := Lib.hid (by have := hx.kl; rwa [nb_len] at this)
  have HB := Lib.hid hb
  clear hb
  go_enter Try.func9, Try.ntmps9
  go_wp2
  go_loopw [4, 5] (fun b i wr => ∃ (v1 : Value) (acc : List Nat) (at_ : Nat), b = v1 ∧ i = .int .i64 at_ ∧ at_ ≤ n ∧ acc.length ≤ 16 ∧ Hid (Mid wr w.heap.size 3 1 v1 acc.length (ks .i64 (nb acc)) ∧ Below w.heap.size w wr ∧ readR bs 0 [] = readR (bs.drop at_) (pq acc) acc ∧ pq acc ≤ 1073741825)) (fun _ i _ => n - (intOf i).toNat)
  case atStart => exact ⟨_, [], 0, rfl, rfl, Nat.zero_le _, by simp, Lib.hid ⟨Mid.nil _ _ _ _, Below.refl _ _, rfl, by simp [pq]⟩⟩
  case round =>
    obtain ⟨v1, acc, at_, hv, rfl, hat, hacc, HI⟩ := hrel
    subst hv
    obtain ⟨A1, c1, hv⟩ := HI.out.1.form
    subst hv
    by_cases hlt : at_ < n
    · obtain ⟨ad, rfl, _⟩ := hx.kat hlt
      have hi1 : (at_ : Int) < n := by omega
      have hi0' : (0 : Int) ≤ at_ := by omega
      have HNE : Hid (bs.drop at_ ≠ []) := Lib.hid (by intro e; have := congrArg List.length e; rw [List.length_drop, LX.out] at this; simp at this; omega)
      have HBW := Lib.hid (hx.below HI.out.2.1)
      generalize hL : acc.length = L at *
      have HL := Lib.hid hL
      clear hL
      go_upto_block 2 with (fail)
      go_cut [6, 7, 8] from 9 to 72 (fun s6 s7 s8 wx => Hid (NumAt bs at_ n s6 s7) ∧ wx = wr)
      case first =>
        go_wp2
        go_loop [6, 7] (fun s i => ∃ k a : Nat, k ≤ 5 ∧ at_ + k ≤ n ∧ i = .int .i64 k ∧ s = .int .i64 a ∧ Hid (a < 128 ^ k ∧ numR (bs.drop at_) 0 0 = numR (bs.drop (at_ + k)) k a)) (fun _ i => 6 - (intOf i).toNat)
        case atStart => exact ⟨0, 0, by omega, by omega, rfl, rfl, Lib.hid ⟨by simp, rfl⟩⟩
        case round =>
          obtain ⟨k, a, hk5, hkn, rfl, rfl, HA⟩ := hrel
          by_cases hlt2 : at_ + k < n
          · obtain ⟨ad', e', h1⟩ := HBW.out.kat hlt2
            injection e' with e'
            subst e'
            have hlx : at_ + k < bs.length := by rw [LX.out]; exact hlt2
            rw [nb_at hlx] at h1
            have HC := Lib.hid (HB.out (bs.getD (at_ + k) 0) (by rw [List.getD_eq_getElem?_getD, List.getElem?_eq_getElem hlx]; exact List.getElem_mem hlx))
            have HLX := Lib.hid hlx
            clear hlx
            have hk9 : (at_ : Int) + k < n := by omega
            have hk8 : ¬ (at_ : Int) + k ≥ n := by omega
            rcases (show k = 0 ∨ k = 1 ∨ k = 2 ∨ k = 3 ∨ k = 4 ∨ k = 5 by omega) with rfl | rfl | rfl | rfl | rfl | rfl
            · have h1' : wr.cell? (ad.add at_) = some (.int .u8 ((bs.getD (at_ + 0) 0 : Nat) : Int)) := by rw [← h1]; rfl
              have HV := Lib.hid (orv0 a (bs.getD (at_ + 0) 0) HA.out.1 HC.out)
              have HM := Lib.hid (pow_step a (bs.getD (at_ + 0) 0) 0 HA.out.1)
              clear h1
              by_cases hc1 : bs.getD (at_ + 0) 0 < 128
              · by_cases hd0 : bs.getD (at_ + 0) 0 = 0
                · have HE := Lib.hid (HA.out.2.trans (numR_last HLX.out (by omega) hc1 (by omega)))
                  have hj : at_ + 0 + 1 ≤ n := by omega
                  have HV2 : Hid (bits .or .i64 (a : Int) (wrap64 (wrap64 (bits .and .u8 0 127))) = ((a + 0 % 128 * 128 ^ 0 : Nat) : Int)) := Lib.hid (orv0 a 0 HA.out.1 (by omega))
                  have HD0 := Lib.hid hd0
                  rw [hd0] at h1'
                  clear hc1 hd0
                  go_wp2
                  go_meet
                  case rel => exact ⟨Lib.hid ⟨_, 0 + 1, congrArg (Value.int .i64) HV2.out, rfl, by have := HE.out; rw [HD0.out] at this; exact this, by have := HA.out.1; simp only [Nat.reducePow] at this ⊢; omega, by omega, by omega, by omega⟩, rfl⟩
                · have HE := Lib.hid (HA.out.2.trans (numR_last HLX.out (by omega) hc1 (by omega)))
                  have hd : ((bs.getD (at_ + 0) 0 : Nat) : Int) < 128 := by omega
                  have hd1 : (((bs.getD (at_ + 0) 0 : Nat) : Int) == 0) = false := beq_eq_false_iff_ne.2 (by omega)
                  have hj : at_ + 0 + 1 ≤ n := by omega
                  clear hc1 hd0
                  generalize bs.getD (at_ + 0) 0 = d at *
                  go_wp2
                  go_meet
                  case rel => exact ⟨Lib.hid ⟨_, 0 + 1, congrArg (Value.int .i64) HV.out, rfl, HE.out, by have := HM.out; simp only [Nat.reducePow, Nat.reduceAdd] at this ⊢; omega, by omega, by omega, by omega⟩, rfl⟩
              · have HE := Lib.hid (HA.out.2.trans (numR_more HLX.out (by omega) hc1))
                have hd : ¬ ((bs.getD (at_ + 0) 0 : Nat) : Int) < 128 := by omega
                have hj : at_ + 0 + 1 ≤ n := by omega
                clear hc1
                generalize bs.getD (at_ + 0) 0 = d at *
                go_wp2
                go_round
                case rel => exact ⟨0 + 1, _, by omega, by omega, by first | rfl | go_num, congrArg (Value.int .i64) HV.out, Lib.hid ⟨HM.out, HE.out⟩⟩
                case measure => simp only [intOf]; omega
            · have h1' : wr.cell? ⟨ad.block, ad.off + (at_ + 1), none⟩ = some (.int .u8 ((bs.getD (at_ + 1) 0 : Nat) : Int)) := by rw [← h1]; unfold Addr.add; rw [if_neg (by omega)]
              have HV := Lib.hid (orv 1 a (bs.getD (at_ + 1) 0) 128 (by decide) (by omega) HA.out.1 HC.out)
              have HM := Lib.hid (pow_step a (bs.getD (at_ + 1) 0) 1 HA.out.1)
              clear h1
              by_cases hc1 : bs.getD (at_ + 1) 0 < 128
              · by_cases hd0 : bs.getD (at_ + 1) 0 = 0
                · have HE : Hid (decR bs = none) := Lib.hid (decR_no (HI.out.2.2.1.trans (readR_none HNE.out (HA.out.2.trans (numR_zero HLX.out (by omega) hd0 (by omega))))))
                  rw [hd0] at h1'
                  clear hc1 hd0
                  go_wp2
                  go_ret2
                  exact ⟨_, [], 5, rfl, HI.out.2.1, Mid.nil _ _ _ _, .inr ⟨HE.out, rfl, rfl⟩⟩
                · have HE := Lib.hid (HA.out.2.trans (numR_last HLX.out (by omega) hc1 (by omega)))
                  have hd : ((bs.getD (at_ + 1) 0 : Nat) : Int) < 128 := by omega
                  have hd1 : (((bs.getD (at_ + 1) 0 : Nat) : Int) == 0) = false := beq_eq_false_iff_ne.2 (by omega)
                  have hj : at_ + 1 + 1 ≤ n := by omega
                  clear hc1 hd0
                  generalize bs.getD (at_ + 1) 0 = d at *
                  go_wp2
                  go_meet
                  case rel => exact ⟨Lib.hid ⟨_, 1 + 1, congrArg (Value.int .i64) HV.out, rfl, HE.out, by have := HM.out; simp only [Nat.reducePow, Nat.reduceAdd] at this ⊢; omega, by omega, by omega, by omega⟩, rfl⟩
              · have HE := Lib.hid (HA.out.2.trans (numR_more HLX.out (by omega) hc1))
                have hd : ¬ ((bs.getD (at_ + 1) 0 : Nat) : Int) < 128 := by omega
                have hj : at_ + 1 + 1 ≤ n := by omega
                clear hc1
                generalize bs.getD (at_ + 1) 0 = d at *
                go_wp2
                go_round
                case rel => exact ⟨1 + 1, _, by omega, by omega, by first | rfl | go_num, congrArg (Value.int .i64) HV.out, Lib.hid ⟨HM.out, HE.out⟩⟩
                case measure => simp only [intOf]; omega
            · have h1' : wr.cell? ⟨ad.block, ad.off + (at_ + 2), none⟩ = some (.int .u8 ((bs.getD (at_ + 2) 0 : Nat) : Int)) := by rw [← h1]; unfold Addr.add; rw [if_neg (by omega)]
              have HV := Lib.hid (orv 2 a (bs.getD (at_ + 2) 0) 16384 (by decide) (by omega) HA.out.1 HC.out)
              have HM := Lib.hid (pow_step a (bs.getD (at_ + 2) 0) 2 HA.out.1)
              clear h1
              by_cases hc1 : bs.getD (at_ + 2) 0 < 128
              · by_cases hd0 : bs.getD (at_ + 2) 0 = 0
                · have HE : Hid (decR bs = none) := Lib.hid (decR_no (HI.out.2.2.1.trans (readR_none HNE.out (HA.out.2.trans (numR_zero HLX.out (by omega) hd0 (by omega))))))
                  rw [hd0] at h1'
                  clear hc1 hd0
                  go_wp2
                  go_ret2
                  exact ⟨_, [], 5, rfl, HI.out.2.1, Mid.nil _ _ _ _, .inr ⟨HE.out, rfl, rfl⟩⟩
                · have HE := Lib.hid (HA.out.2.trans (numR_last HLX.out (by omega) hc1 (by omega)))
                  have hd : ((bs.getD (at_ + 2) 0 : Nat) : Int) < 128 := by omega
                  have hd1 : (((bs.getD (at_ + 2) 0 : Nat) : Int) == 0) = false := beq_eq_false_iff_ne.2 (by omega)
                  have hj : at_ + 2 + 1 ≤ n := by omega
                  clear hc1 hd0
                  generalize bs.getD (at_ + 2) 0 = d at *
                  go_wp2
                  go_meet
                  case rel => exact ⟨Lib.hid ⟨_, 2 + 1, congrArg (Value.int .i64) HV.out, rfl, HE.out, by have := HM.out; simp only [Nat.reducePow, Nat.reduceAdd] at this ⊢; omega, by omega, by omega, by omega⟩, rfl⟩
              · have HE := Lib.hid (HA.out.2.trans (numR_more HLX.out (by omega) hc1))
                have hd : ¬ ((bs.getD (at_ + 2) 0 : Nat) : Int) < 128 := by omega
                have hj : at_ + 2 + 1 ≤ n := by omega
                clear hc1
                generalize bs.getD (at_ + 2) 0 = d at *
                go_wp2
                go_round
                case rel => exact ⟨2 + 1, _, by omega, by omega, by first | rfl | go_num, congrArg (Value.int .i64) HV.out, Lib.hid ⟨HM.out, HE.out⟩⟩
                case measure => simp only [intOf]; omega
            · have h1' : wr.cell? ⟨ad.block, ad.off + (at_ + 3), none⟩ = some (.int .u8 ((bs.getD (at_ + 3) 0 : Nat) : Int)) := by rw [← h1]; unfold Addr.add; rw [if_neg (by omega)]
              have HV := Lib.hid (orv 3 a (bs.getD (at_ + 3) 0) 2097152 (by decide) (by omega) HA.out.1 HC.out)
              have HM := Lib.hid (pow_step a (bs.getD (at_ + 3) 0) 3 HA.out.1)
              clear h1
              by_cases hc1 : bs.getD (at_ + 3) 0 < 128
              · by_cases hd0 : bs.getD (at_ + 3) 0 = 0
                · have HE : Hid (decR bs = none) := Lib.hid (decR_no (HI.out.2.2.1.trans (readR_none HNE.out (HA.out.2.trans (numR_zero HLX.out (by omega) hd0 (by omega))))))
                  rw [hd0] at h1'
                  clear hc1 hd0
                  go_wp2
                  go_ret2
                  exact ⟨_, [], 5, rfl, HI.out.2.1, Mid.nil _ _ _ _, .inr ⟨HE.out, rfl, rfl⟩⟩
                · have HE := Lib.hid (HA.out.2.trans (numR_last HLX.out (by omega) hc1 (by omega)))
                  have hd : ((bs.getD (at_ + 3) 0 : Nat) : Int) < 128 := by omega
                  have hd1 : (((bs.getD (at_ + 3) 0 : Nat) : Int) == 0) = false := beq_eq_false_iff_ne.2 (by omega)
                  have hj : at_ + 3 + 1 ≤ n := by omega
                  clear hc1 hd0
                  generalize bs.getD (at_ + 3) 0 = d at *
                  go_wp2
                  go_meet
                  case rel => exact ⟨Lib.hid ⟨_, 3 + 1, congrArg (Value.int .i64) HV.out, rfl, HE.out, by have := HM.out; simp only [Nat.reducePow, Nat.reduceAdd] at this ⊢; omega, by omega, by omega, by omega⟩, rfl⟩
              · have HE := Lib.hid (HA.out.2.trans (numR_more HLX.out (by omega) hc1))
                have hd : ¬ ((bs.getD (at_ + 3) 0 : Nat) : Int) < 128 := by omega
                have hj : at_ + 3 + 1 ≤ n := by omega
                clear hc1
                generalize bs.getD (at_ + 3) 0 = d at *
                go_wp2
                go_round
                case rel => exact ⟨3 + 1, _, by omega, by omega, by first | rfl | go_num, congrArg (Value.int .i64) HV.out, Lib.hid ⟨HM.out, HE.out⟩⟩
                case measure => simp only [intOf]; omega
            · have h1' : wr.cell? ⟨ad.block, ad.off + (at_ + 4), none⟩ = some (.int .u8 ((bs.getD (at_ + 4) 0 : Nat) : Int)) := by rw [← h1]; unfold Addr.add; rw [if_neg (by omega)]
              have HV := Lib.hid (orv 4 a (bs.getD (at_ + 4) 0) 268435456 (by decide) (by omega) HA.out.1 HC.out)
              have HM := Lib.hid (pow_step a (bs.getD (at_ + 4) 0) 4 HA.out.1)
              clear h1
              by_cases hc1 : bs.getD (at_ + 4) 0 < 128
              · by_cases hd0 : bs.getD (at_ + 4) 0 = 0
                · have HE : Hid (decR bs = none) := Lib.hid (decR_no (HI.out.2.2.1.trans (readR_none HNE.out (HA.out.2.trans (numR_zero HLX.out (by omega) hd0 (by omega))))))
                  rw [hd0] at h1'
                  clear hc1 hd0
                  go_wp2
                  go_ret2
                  exact ⟨_, [], 5, rfl, HI.out.2.1, Mid.nil _ _ _ _, .inr ⟨HE.out, rfl, rfl⟩⟩
                · have HE := Lib.hid (HA.out.2.trans (numR_last HLX.out (by omega) hc1 (by omega)))
                  have hd : ((bs.getD (at_ + 4) 0 : Nat) : Int) < 128 := by omega
                  have hd1 : (((bs.getD (at_ + 4) 0 : Nat) : Int) == 0) = false := beq_eq_false_iff_ne.2 (by omega)
                  have hj : at_ + 4 + 1 ≤ n := by omega
                  clear hc1 hd0
                  generalize bs.getD (at_ + 4) 0 = d at *
                  go_wp2
                  go_meet
                  case rel => exact ⟨Lib.hid ⟨_, 4 + 1, congrArg (Value.int .i64) HV.out, rfl, HE.out, by have := HM.out; simp only [Nat.reducePow, Nat.reduceAdd] at this ⊢; omega, by omega, by omega, by omega⟩, rfl⟩
              · have HE := Lib.hid (HA.out.2.trans (numR_more HLX.out (by omega) hc1))
                have hd : ¬ ((bs.getD (at_ + 4) 0 : Nat) : Int) < 128 := by omega
                have hj : at_ + 4 + 1 ≤ n := by omega
                clear hc1
                generalize bs.getD (at_ + 4) 0 = d at *
                go_wp2
                go_round
                case rel => exact ⟨4 + 1, _, by omega, by omega, by first | rfl | go_num, congrArg (Value.int .i64) HV.out, Lib.hid ⟨HM.out, HE.out⟩⟩
                case measure => simp only [intOf]; omega
            · have HE : Hid (decR bs = none) := Lib.hid (decR_no (HI.out.2.2.1.trans (readR_none HNE.out (HA.out.2.trans numR_five))))
              clear h1
              go_wp2
              go_ret2
              exact ⟨_, [], 5, rfl, HI.out.2.1, Mid.nil _ _ _ _, .inr ⟨HE.out, rfl, rfl⟩⟩
          · have HE : Hid (decR bs = none) := Lib.hid (decR_no (HI.out.2.2.1.trans (readR_none HNE.out (HA.out.2.trans (numR_end (by rw [LX.out]; omega))))))
            have hk8 : (at_ : Int) + k ≥ n := by omega
            go_wp2
            go_ret2
            exact ⟨_, [], 5, rfl, HI.out.2.1, Mid.nil _ _ _ _, .inr ⟨HE.out, rfl, rfl⟩⟩
      case rest =>
        obtain ⟨HNA, rfl⟩ := hcut
        obtain ⟨m, sz, rfl, rfl, hnr, hm9, hs1, hs5, hsn⟩ := HNA.out
        have HNR := Lib.hid hnr
        clear hnr
        by_cases h0 : L = 0
        · have hac : acc = [] := List.eq_nil_of_length_eq_zero (by rw [HL.out]; exact h0)
          have HQ : Hid (pq acc = 0) := Lib.hid (by rw [hac]; rfl)
          subst h0
          clear hac
          by_cases hb1 : (0 + m) > 1073741824
          · have hb2 : (m : Int) > 1073741824 := by omega
            have HE : Hid (decR bs = none) := Lib.hid (decR_no (HI.out.2.2.1.trans (readR_bad HNE.out HNR.out (.inl (by rw [HQ.out]; exact hb1)))))
            clear hb1
            go_wp2_with (first
              | (refine wpList_append_mid rfl (.tmp 62) (.tmp 64) 22 rfl w.heap.size 3 i0 _ 1 8 Try.underlying22 hi0 hz0 hz1 hz2 rfl (by omega) (.slice A1 0 c1) _ _ rfl (HI.out.1.same fun g hg => Below.heap_alloc wc _ g (HI.out.1.lt g hg).2) ⟨wc.heap.size, 0, none⟩ 1 1 [.int .i64 _] rfl rfl (World.news_of_block (cs := #[.int .i64 _]) (t := 3) (fr := (0, 0)) (heap_alloc_new wc _)) (by simp [Value.oneCell']) (by unfold maxLen; omega) (by omega) (by have := HI.out.2.1.size; simp; omega) ?_
                 intro v' w3 hmm hran
                 obtain ⟨A2, c2, rfl⟩ := hmm.form
                 have HMM := Lib.hid hmm
                 have HRN := Lib.hid hran
                 clear hmm hran)
              | fail)
            go_ret2
            exact ⟨_, [], 5, rfl, HI.out.2.1.grown (HRN.out.alloc).grown HI.out.2.1.size (fun g hg => (HI.out.1.lt g hg).1), Mid.nil _ _ _ _, .inr ⟨HE.out, rfl, rfl⟩⟩
          · have hb2 : ¬ (m : Int) > 1073741824 := by omega
            by_cases hb3 : 0 + 1 > 16
            · exact absurd hb3 (by omega)
            · have HE := Lib.hid (HI.out.2.2.1.trans (readR_step HNE.out HNR.out (by rw [HQ.out, HL.out]; simp only; omega)))
              have hb4 : ¬ ((0 : Nat) : Int) + 1 > 16 := by omega
              have hb5 : 0 + 1 ≤ 16 := by omega
              have hx9 : (0 + m) ≤ 1073741824 := by omega
              clear hb1 hb3
              go_wp2_with (first
                | (refine wpList_append_mid rfl (.tmp 62) (.tmp 64) 22 rfl w.heap.size 3 i0 _ 1 8 Try.underlying22 hi0 hz0 hz1 hz2 rfl (by omega) (.slice A1 0 c1) _ _ rfl (HI.out.1.same fun g hg => Below.heap_alloc wc _ g (HI.out.1.lt g hg).2) ⟨wc.heap.size, 0, none⟩ 1 1 [.int .i64 _] rfl rfl (World.news_of_block (cs := #[.int .i64 _]) (t := 3) (fr := (0, 0)) (heap_alloc_new wc _)) (by simp [Value.oneCell']) (by unfold maxLen; omega) (by omega) (by have := HI.out.2.1.size; simp; omega) ?_
                   intro v' w3 hmm hran
                   obtain ⟨A2, c2, rfl⟩ := hmm.form
                   have HMM := Lib.hid hmm
                   have HRN := Lib.hid hran
                   clear hmm hran)
                | fail)
              have HN : Hid (Mid w3 w.heap.size 3 1 (.slice A2 (0 + 1) c2) (acc ++ [(0 + m)]).length (ks .i64 (nb (acc ++ [(0 + m)]))) ∧ Below w.heap.size w w3 ∧ readR bs 0 [] = readR (bs.drop (at_ + sz)) (pq (acc ++ [(0 + m)])) (acc ++ [(0 + m)]) ∧ pq (acc ++ [(0 + m)]) ≤ 1073741825) := Lib.hid ⟨by
                  have hmm := HMM.out
                  rw [List.length_append, HL.out, nb_append, ks_append]
                  rw [show (m : Int) = (((0 + m) : Nat) : Int) by omega] at hmm
                  exact hmm, HI.out.2.1.grown (HRN.out.alloc).grown HI.out.2.1.size (fun g hg => (HI.out.1.lt g hg).1), by
                  have := HE.out
                  rw [HQ.out, List.drop_drop] at this
                  rw [pq_snoc]
                  exact this, by rw [pq_snoc]; omega⟩
              clear HMM HRN
              go_roundw
              case rel => exact ⟨_, acc ++ [(0 + m)], at_ + sz, rfl, by go_num, by omega, by rw [List.length_append, HL.out]; simp <;> omega, HN⟩
              case measure => simp only [intOf]; omega
        · obtain ⟨L', rfl⟩ : ∃ L', L = L' + 1 := ⟨L - 1, by omega⟩
          clear h0
          have HQ : Hid (pq acc = acc.getD L' 0 + 1) := Lib.hid (by unfold pq; rw [if_neg (by rw [HL.out]; omega), HL.out]; rfl)
          obtain ⟨ad1, rfl, k1⟩ := (HI.out.1.reads).kat (show L' < L' + 1 by omega)
          rw [nb_at (by rw [HL.out]; omega)] at k1
          have hz9 : acc.getD L' 0 ≤ 1073741824 := by have := HI.out.2.2.2; rw [HQ.out] at this; omega
          have hl1 : (0 : Int) < (L' : Int) + 1 := by omega
          have hl2 : (0 : Int) ≤ L' := by omega
          have hl3 : (L' : Int) < (L' : Int) + 1 := by omega
          generalize acc.getD L' 0 = z at *
          by_cases hb1 : (z + 1 + m) > 1073741824
          · have hb2 : ((m : Int) + z + 1) > 1073741824 := by omega
            have HE : Hid (decR bs = none) := Lib.hid (decR_no (HI.out.2.2.1.trans (readR_bad HNE.out HNR.out (.inl (by rw [HQ.out]; exact hb1)))))
            clear hb1
            go_wp2_with (first
              | (refine wpList_append_mid rfl (.tmp 62) (.tmp 64) 22 rfl w.heap.size 3 i0 _ 1 8 Try.underlying22 hi0 hz0 hz1 hz2 rfl (by omega) (.slice (some ad1) (L' + 1) c1) _ _ rfl (HI.out.1.same fun g hg => Below.heap_alloc wc _ g (HI.out.1.lt g hg).2) ⟨wc.heap.size, 0, none⟩ 1 1 [.int .i64 _] rfl rfl (World.news_of_block (cs := #[.int .i64 _]) (t := 3) (fr := (0, 0)) (heap_alloc_new wc _)) (by simp [Value.oneCell']) (by unfold maxLen; omega) (by omega) (by have := HI.out.2.1.size; simp; omega) ?_
                 intro v' w3 hmm hran
                 obtain ⟨A2, c2, rfl⟩ := hmm.form
                 have HMM := Lib.hid hmm
                 have HRN := Lib.hid hran
                 clear hmm hran)
              | fail)
            go_ret2
            exact ⟨_, [], 5, rfl, HI.out.2.1.grown (HRN.out.alloc).grown HI.out.2.1.size (fun g hg => (HI.out.1.lt g hg).1), Mid.nil _ _ _ _, .inr ⟨HE.out, rfl, rfl⟩⟩
          · have hb2 : ¬ ((m : Int) + z + 1) > 1073741824 := by omega
            by_cases hb3 : (L' + 1) + 1 > 16
            · have HE : Hid (decR bs = none) := Lib.hid (decR_no (HI.out.2.2.1.trans (readR_bad HNE.out HNR.out (.inr (.inl (by rw [HL.out]; exact hb3))))))
              have hb4 : (((L' + 1) : Nat) : Int) + 1 > 16 := by omega
              clear hb1 hb3
              go_wp2_with (first
                | (refine wpList_append_mid rfl (.tmp 62) (.tmp 64) 22 rfl w.heap.size 3 i0 _ 1 8 Try.underlying22 hi0 hz0 hz1 hz2 rfl (by omega) (.slice (some ad1) (L' + 1) c1) _ _ rfl (HI.out.1.same fun g hg => Below.heap_alloc wc _ g (HI.out.1.lt g hg).2) ⟨wc.heap.size, 0, none⟩ 1 1 [.int .i64 _] rfl rfl (World.news_of_block (cs := #[.int .i64 _]) (t := 3) (fr := (0, 0)) (heap_alloc_new wc _)) (by simp [Value.oneCell']) (by unfold maxLen; omega) (by omega) (by have := HI.out.2.1.size; simp; omega) ?_
                   intro v' w3 hmm hran
                   obtain ⟨A2, c2, rfl⟩ := hmm.form
                   have HMM := Lib.hid hmm
                   have HRN := Lib.hid hran
                   clear hmm hran)
                | fail)
              go_ret2
              exact ⟨_, [], 5, rfl, HI.out.2.1.grown (HRN.out.alloc).grown HI.out.2.1.size (fun g hg => (HI.out.1.lt g hg).1), Mid.nil _ _ _ _, .inr ⟨HE.out, rfl, rfl⟩⟩
            · have HE := Lib.hid (HI.out.2.2.1.trans (readR_step HNE.out HNR.out (by rw [HQ.out, HL.out]; simp only; omega)))
              have hb4 : ¬ (((L' + 1) : Nat) : Int) + 1 > 16 := by omega
              have hb5 : (L' + 1) + 1 ≤ 16 := by omega
              have hx9 : (z + 1 + m) ≤ 1073741824 := by omega
              clear hb1 hb3
              go_wp2_with (first
                | (refine wpList_append_mid rfl (.tmp 62) (.tmp 64) 22 rfl w.heap.size 3 i0 _ 1 8 Try.underlying22 hi0 hz0 hz1 hz2 rfl (by omega) (.slice (some ad1) (L' + 1) c1) _ _ rfl (HI.out.1.same fun g hg => Below.heap_alloc wc _ g (HI.out.1.lt g hg).2) ⟨wc.heap.size, 0, none⟩ 1 1 [.int .i64 _] rfl rfl (World.news_of_block (cs := #[.int .i64 _]) (t := 3) (fr := (0, 0)) (heap_alloc_new wc _)) (by simp [Value.oneCell']) (by unfold maxLen; omega) (by omega) (by have := HI.out.2.1.size; simp; omega) ?_
                   intro v' w3 hmm hran
                   obtain ⟨A2, c2, rfl⟩ := hmm.form
                   have HMM := Lib.hid hmm
                   have HRN := Lib.hid hran
                   clear hmm hran)
                | fail)
              have HN : Hid (Mid w3 w.heap.size 3 1 (.slice A2 (L' + 1 + 1) c2) (acc ++ [(z + 1 + m)]).length (ks .i64 (nb (acc ++ [(z + 1 + m)]))) ∧ Below w.heap.size w w3 ∧ readR bs 0 [] = readR (bs.drop (at_ + sz)) (pq (acc ++ [(z + 1 + m)])) (acc ++ [(z + 1 + m)]) ∧ pq (acc ++ [(z + 1 + m)]) ≤ 1073741825) := Lib.hid ⟨by
                  have hmm := HMM.out
                  rw [List.length_append, HL.out, nb_append, ks_append]
                  rw [show ((m : Int) + z + 1) = (((z + 1 + m) : Nat) : Int) by omega] at hmm
                  exact hmm, HI.out.2.1.grown (HRN.out.alloc).grown HI.out.2.1.size (fun g hg => (HI.out.1.lt g hg).1), by
                  have := HE.out
                  rw [HQ.out, List.drop_drop] at this
                  rw [pq_snoc]
                  exact this, by rw [pq_snoc]; omega⟩
              clear HMM HRN
              go_roundw
              case rel => exact ⟨_, acc ++ [(z + 1 + m)], at_ + sz, rfl, by go_num, by omega, by rw [List.length_append, HL.out]; simp <;> omega, HN⟩
              case measure => simp only [intOf]; omega
    · skip
      have HRD : Hid (readR bs 0 [] = some acc) := Lib.hid (by rw [HI.out.2.2.1, List.drop_of_length_le (by rw [LX.out]; omega), readR_nil])
      generalize hL : acc.length = L at *
      have HL := Lib.hid hL
      clear hL
      by_cases h0 : L = 0
      · have hac : acc = [] := List.eq_nil_of_length_eq_zero (by rw [HL.out]; exact h0)
        subst h0
        have HF : Hid (decR bs = none) := Lib.hid (by rw [decR_of HRD.out, if_pos hac])
        clear hac
        have hnl : ¬ (at_ : Int) < n := by omega
        go_wp2
        go_ret2
        exact ⟨_, [], 5, rfl, HI.out.2.1, Mid.nil _ _ _ _, .inr ⟨HF.out, rfl, rfl⟩⟩
      · have hL0 : ((L : Int) == 0) = false := beq_eq_false_iff_ne.2 (by omega)
        have HF : Hid (decR bs = some acc) := Lib.hid (by rw [decR_of HRD.out, if_neg (by intro e; rw [e] at HL; exact h0 HL.out.symm)])
        have hnl : ¬ (at_ : Int) < n := by omega
        clear h0
        go_wp2
        go_ret2
        exact ⟨_, acc, 0, rfl, HI.out.2.1, by rw [HL.out]; exact HI.out.1, .inl ⟨HF.out, rfl⟩⟩
end Go.Proofs.Ytoinanbpiemfoaa
