/-
  The document's RightTerm, the law's own test of a list; conditions: lengths that fit an int.
-/
import Derived.Test.YtbfmklaakjepaaaDoorSh8
import Derived.Deep.QuietTactic
import Derived.BigQuiet
namespace Go.Proofs.YtbfmklaakjepaaaDoor
open Go.RowKit Go.WideShapes Go.ChangeShapes
set_option linter.all false
theorem nz_take (s : ByteArray) (k : Nat) (h : k < s.size) : nz (s.data.toList.take (k + 1)) = (nz (s.data.toList.take k) && s[k] != 0) := by
  rw [List.take_add_one, List.getElem?_eq_getElem (by rw [len_list]; exact h), get_list s k h]
  simp [nz, List.all_append]
theorem nz_all (s : ByteArray) (k : Nat) (h : k < s.size) (h0 : s[k] = 0) : nz s.data.toList = false := by
  have : s[k] ∈ s.data.toList := by rw [← get_list s k h]; exact List.getElem_mem _
  simp only [nz, List.all_eq_false]
  exact ⟨_, this, by simp [h0]⟩
theorem u8_nat0 {a : UInt8} : ((a.toNat : Int) == 0) = (a == 0) := by
  by_cases h : a = 0
  · subst h; rfl
  · have h1 : a.toNat ≠ 0 := fun e => h (UInt8.toNat_inj.1 e)
    have h2 : (a == 0) = false := by simpa using h
    rw [h2]; simpa using h1
theorem rightL_hit (s : ByteArray) (k : Nat) (h : k < s.size) (h0 : s[k] = 0) : rightL s.data.toList = false := by
  rw [rightL, nz_all s k h h0]; cases (decide (1 ≤ s.data.toList.length)) <;> cases (decide (s.data.toList.length ≤ 12)) <;> rfl
theorem rightL_len {s : ByteArray} (h : rightL s.data.toList = true) : s.size ≤ 12 := by
  simp only [rightL, len_list, Bool.and_eq_true, decide_eq_true_eq] at h; exact h.1.2
theorem rightTerm_any (s : ByteArray) (h9 : s.size ≤ 9223372036854775807) (w : World) : Calls Tryd.prog 17 #[.string s] w fun e w' => e = .returned (.bool (rightL s.data.toList)) ∧ w' = w := by
  go_enter Tryd.func17, Tryd.ntmps17
  go_wp2
  go_loop [3] (fun i => ∃ k : Nat, k ≤ s.size ∧ i = .int .i64 k ∧ nz (s.data.toList.take k) = true) (fun i => s.size - (intOf i).toNat)
  case atStart => exact ⟨0, Nat.zero_le _, rfl, rfl⟩
  case round =>
    obtain ⟨k, hk, rfl, hn⟩ := hrel
    go_wp2
    · have hl : k < s.size := by assumption
      have h0 : (((s[k]'hl).toNat : Int) == 0) = true := by assumption
      rw [u8_nat0] at h0
      go_ret; refine ⟨?_, rfl⟩
      rw [rightL_hit s k hl (by simpa using h0)]; rfl
    · have hl : k < s.size := by assumption
      have h0 : (((s[k]'hl).toNat : Int) == 0) = false := by assumption
      rw [u8_nat0] at h0
      go_round
      case rel =>
        refine ⟨k + 1, by omega, by go_num, ?_⟩
        rw [nz_take s k hl, hn, bne, h0]; rfl
      case measure => simp only [intOf]; omega
    · have h1 : (1 : Int) ≤ s.size := by assumption
      have hl : ¬ k < s.size := by assumption
      have hk' : k = s.size := by omega
      subst hk'
      rw [List.take_of_length_le (by rw [len_list]; omega)] at hn
      go_ret; refine ⟨?_, rfl⟩
      show Ending.returned (Value.bool (decide ((s.size : Int) ≤ 12))) = _
      simp only [rightL, len_list, hn, Bool.and_true]
      rw [decide_eq_true (by omega : 1 ≤ s.size), Bool.true_and]
      congr 2
      exact decide_eq_decide.2 (by omega)
    · have h1 : (s.size : Int) < 1 := by assumption
      go_ret; refine ⟨?_, rfl⟩
      simp only [rightL, len_list]
      rw [decide_eq_false (by omega : ¬ 1 ≤ s.size), Bool.false_and]; rfl
set_option maxRecDepth 100000 in
set_option maxHeartbeats 1600000 in
theorem rightL_any (A : Option Addr) (n c : Nat) (es : List En) (w : World) (hx : Reads w w.heap.size 2 A n (rowE es)) (hT : Texts es) (hn : n ≤ 9223372036854775807) :
    Calls Tryd.prog 15 #[.slice A n c] w fun e w' => e = .returned (.bool (okB es)) ∧ Below w.heap.size w w' := by
  have LX : Hid (es.length = n) := Lib.hid (ents_len hx)
  go_enter Tryd.func15, Tryd.ntmps15
  go_wp2
  go_loopw [6] (fun i wr => ∃ k : Nat, k ≤ n ∧ i = .int .i64 k ∧ Hid (∀ i, i < k → OKat es i) ∧ Below w.heap.size w wr ∧ wr.heap = w.heap) (fun i _ => n - (intOf i).toNat)
  case atStart => exact ⟨0, Nat.zero_le _, rfl, Lib.hid (fun i hi => absurd hi (by omega)), Below.refl _ _, rfl⟩
  case round =>
    obtain ⟨k, hk, rfl, HT, hbl, hhp⟩ := hrel
    by_cases hlt : k < n
    · have HLT := Lib.hid hlt
      have hc : ∀ p : Addr, wr.cell? p = w.cell? p := fun p => by simp [World.cell?, hhp]
      obtain ⟨ad, rfl, hb, g0, g1⟩ := ents_get hx hlt
      obtain ⟨x, hxx⟩ : ∃ x, x = (es.getD k d0).1 := ⟨_, rfl⟩
      obtain ⟨v, hvv⟩ : ∃ v, v = (es.getD k d0).2 := ⟨_, rfl⟩
      have hx9 : x.size ≤ 9223372036854775807 := by rw [hxx]; exact Nat.le_trans (hT.get k) (by decide)
      rw [← hxx] at g0
      rw [← hvv] at g1
      rw [← hc] at g0 g1
      have HX := Lib.hid hxx
      have HV := Lib.hid hvv
      have HBN : ∀ q, Hid (Below w.heap.size w (wr.drewN q)) := fun q => Lib.hid (belowN hbl q)
      have HBN' := Lib.hid HBN
      have HHP := Lib.hid hhp
      clear hxx hvv HBN
      cases hr : rightL x.data.toList with
      | false =>
        have HF : Hid (okB es = false) := Lib.hid (not_at LX.out HLT.out (fun q => by have := q.1.1; rw [← HX.out, hr] at this; cases this))
        clear hx hc hbl hhp hb
        go_wp2
        go_quiet ((go_at_call 17; have h17 := rightTerm_any x hx9; rw [hr] at h17; exact Calls.quiet_of_same (h17 _)))
        go_wp2
        go_ret
        exact ⟨by rw [HF.out]; rfl, (HBN'.out _).out⟩
      | true =>
        cases hv0 : decide (v < 0) with
        | true =>
          have HF : Hid (okB es = false) := Lib.hid (not_at LX.out HLT.out (fun q => by have := q.1.2.1; rw [← HV.out] at this; have h0 := of_decide_eq_true hv0; omega))
          clear hx hc hbl hhp hb
          go_wp2
          go_quiet ((go_at_call 17; have h17 := rightTerm_any x hx9; rw [hr] at h17; exact Calls.quiet_of_same (h17 _)))
          go_wp2
          go_ret
          exact ⟨by rw [HF.out]; rfl, (HBN'.out _).out⟩
        | false =>
          cases hv1 : decide ((1099511627776 : Int) < v) with
          | true =>
            have HF : Hid (okB es = false) := Lib.hid (not_at LX.out HLT.out (fun q => by have := q.1.2.2; rw [← HV.out] at this; have h0 := of_decide_eq_true hv1; omega))
            clear hx hc hbl hhp hb
            go_wp2
            go_quiet ((go_at_call 17; have h17 := rightTerm_any x hx9; rw [hr] at h17; exact Calls.quiet_of_same (h17 _)))
            go_wp2
            go_ret
            exact ⟨by rw [HF.out]; rfl, (HBN'.out _).out⟩
          | false =>
            have HO : Hid (okOne (es.getD k d0)) := Lib.hid ⟨by rw [← HX.out]; exact hr, by rw [← HV.out]; have := of_decide_eq_false hv0; omega, by rw [← HV.out]; have := of_decide_eq_false hv1; omega⟩
            rcases Nat.eq_zero_or_pos k with hkz | hk0
            · have HN : Hid (∀ i, i < 0 + 1 → OKat es i) := Lib.hid (fun i hi => by
                obtain rfl : i = k := by omega
                exact ⟨HO.out, fun q => absurd q (by omega)⟩)
              subst hkz
              have h00 : ad.add (0 * 2) = ad := by simp [Addr.add]
              rw [h00] at g0 g1
              clear h00
              clear hx hc hbl hhp hb
              go_wp2
              go_quiet ((go_at_call 17; have h17 := rightTerm_any x hx9; rw [hr] at h17; exact Calls.quiet_of_same (h17 _)))
              go_wp2
              go_roundw
              case rel => exact ⟨0 + 1, by omega, by go_num, HN, (HBN'.out _).out, HHP.out⟩
              case measure => simp only [intOf]; omega
            · obtain ⟨ad', e', hb', h0', _⟩ := ents_get hx (k := k - 1) (by omega)
              obtain rfl : ad = ad' := by injection e'
              obtain ⟨j, rfl⟩ : ∃ j, k = j + 1 := ⟨k - 1, by omega⟩
              have hjj : j + 1 - 1 = j := by omega
              rw [hjj] at h0'
              have g2 : wr.cell? (ad.add (j * 2)) = some (.string (es.getD j d0).1) := by rw [hc]; exact h0'
              obtain ⟨y, hyy⟩ : ∃ y, y = (es.getD j d0).1 := ⟨_, rfl⟩
              rw [← hyy] at g2
              have HY := Lib.hid hyy
              have HK0 : Hid (0 < j + 1) := Lib.hid hk0
              have HLE : Hid (j ≤ n) := Lib.hid (by omega)
              have hjw : IntKind.i64.wrap (((j + 1 : Nat) : Int) - 1) = (j : Int) := by rw [IntWalk.i64_in _ (by omega)]; omega
              clear hyy h0' hb' e' hk0 hjj
              cases hyx : lt y x with
              | true =>
                have l1 : Op.bytesLess x.toList y.toList = false := lt_asym hyx
                have l2 : (x.toList == y.toList) = false := by
                  cases h : x.toList == y.toList with
                  | false => rfl
                  | true =>
                    have := toList_inj (show x.toList = y.toList by simpa using h)
                    rw [this, lt_irr] at hyx; cases hyx
                have HN : Hid (∀ i, i < j + 1 + 1 → OKat es i) := Lib.hid (fun i hi => by
                  rcases Nat.lt_or_ge i (j + 1) with q | q
                  · exact HT.out i q
                  · obtain rfl : i = j + 1 := by omega
                    exact ⟨HO.out, fun _ => by show lt (es.getD j d0).1 _ = true; rw [← HX.out, ← HY.out]; exact hyx⟩)
                clear hyx
                clear hx hc hbl hhp hb
                go_wp2
                go_quiet ((go_at_call 17; have h17 := rightTerm_any x hx9; rw [hr] at h17; exact Calls.quiet_of_same (h17 _)))
                go_wp2
                go_roundw
                case rel => exact ⟨j + 1 + 1, by omega, by go_num, HN, (HBN'.out _).out, HHP.out⟩
                case measure => simp only [intOf]; omega
              | false =>
                have HF0 : Hid (okB es = false) := Lib.hid (not_at LX.out HLT.out (fun q => by have h2 : lt (es.getD j d0).1 (es.getD (j + 1) d0).1 = true := q.2 HK0.out; rw [← HX.out, ← HY.out, hyx] at h2; cases h2))
                cases l1 : lt x y with
                | true =>
                  have l1' : Op.bytesLess x.toList y.toList = true := l1
                  clear hyx l1
                  have HF : Hid (okB es = false) := Lib.hid (HF0.out)
                  clear hx hc hbl hhp hb
                  go_wp2
                  go_quiet ((go_at_call 17; have h17 := rightTerm_any x hx9; rw [hr] at h17; exact Calls.quiet_of_same (h17 _)))
                  go_wp2
                  go_ret
                  exact ⟨by rw [HF.out]; rfl, (HBN'.out _).out⟩
                | false =>
                  have hxy := lt_tri x y l1 hyx
                  have l1' : Op.bytesLess x.toList y.toList = false := l1
                  have l2 : (x.toList == y.toList) = true := by rw [hxy]; exact beq_self y
                  clear hyx l1 hxy
                  have HF : Hid (okB es = false) := Lib.hid (HF0.out)
                  clear hx hc hbl hhp hb
                  go_wp2
                  go_quiet ((go_at_call 17; have h17 := rightTerm_any x hx9; rw [hr] at h17; exact Calls.quiet_of_same (h17 _)))
                  go_wp2
                  go_ret
                  exact ⟨by rw [HF.out]; rfl, (HBN'.out _).out⟩
    · obtain rfl : n = k := by omega
      have HEQ : Hid (okB es = true) := Lib.hid (okB_true fun i hi => HT.out i (by rw [LX.out] at hi; exact hi))
      go_wp2
      go_ret
      exact ⟨by rw [HEQ.out]; rfl, hbl⟩
end Go.Proofs.YtbfmklaakjepaaaDoor
