/-
  Whether a list of entries is right; no condition beyond lengths that fit an int.
-/
import Derived.Test.YtbfmklaakjepaaaDoorSh2
import Derived.Deep.QuietTactic
import Derived.BigQuiet
namespace Go.Proofs.YtbfmklaakjepaaaDoor
open Go.RowKit Go.WideShapes Go.ChangeShapes
set_option linter.all false
theorem belowN {B : Nat} {a w : World} (h : Below B a w) (k : Nat) : Below B a (w.drewN k) := ⟨h.os, h.tape, h.output, h.size, h.block⟩
def okOne (e : En) : Prop := rightL e.1.data.toList = true ∧ 0 ≤ e.2 ∧ e.2 ≤ 1099511627776
def OKat (es : List En) (i : Nat) : Prop := okOne (es.getD i d0) ∧ (0 < i → lt (es.getD (i - 1) d0).1 (es.getD i d0).1 = true)
def OKE (es : List En) : Prop := ∀ i, i < es.length → OKat es i
noncomputable def okB (es : List En) : Bool := @decide (OKE es) (Classical.propDecidable _)
theorem okB_true {es : List En} (h : OKE es) : okB es = true := @decide_eq_true _ (Classical.propDecidable _) h
theorem okB_false {es : List En} (h : ¬ OKE es) : okB es = false := @decide_eq_false _ (Classical.propDecidable _) h
theorem okB_iff {es : List En} : okB es = true ↔ OKE es := @decide_eq_true_iff _ (Classical.propDecidable _)
theorem not_at {es : List En} {n k : Nat} (hl : es.length = n) (hk : k < n) (h : ¬ OKat es k) : okB es = false := okB_false fun q => h (q k (by omega))
set_option maxRecDepth 100000 in
set_option maxHeartbeats 1600000 in
theorem rightE_any (A : Option Addr) (n c : Nat) (es : List En) (w : World) (hx : Reads w w.heap.size 2 A n (rowE es)) (hn : n ≤ 9223372036854775807) :
    Calls Tryd.prog 14 #[.slice A n c] w fun e w' => e = .returned (.bool (okB es)) ∧ Below w.heap.size w w' := by
  have LX : Hid (es.length = n) := Lib.hid (ents_len hx)
  go_enter Tryd.func14, Tryd.ntmps14
  go_wp2
  go_loopw [7] (fun i wr => ∃ k : Nat, k ≤ n ∧ i = .int .i64 k ∧ Hid (∀ i, i < k → OKat es i) ∧ Below w.heap.size w wr) (fun i _ => n - (intOf i).toNat)
  case atStart => exact ⟨0, Nat.zero_le _, rfl, Lib.hid (fun i hi => absurd hi (by omega)), Below.refl _ _⟩
  case round =>
    obtain ⟨k, hk, rfl, HT, hbl⟩ := hrel
    by_cases hlt : k < n
    · have HLT := Lib.hid hlt
      obtain ⟨ad, rfl, hb, h0, h1⟩ := ents_get hx hlt
      have g0 := (hbl.cell (p := ad.add (k * 2)) (by rw [block_of_add]; exact hb)).trans h0
      have g1 := (hbl.cell (p := ⟨(ad.add (k * 2)).block, (ad.add (k * 2)).off + 1, none⟩) (by show (ad.add (k * 2)).block < _; rw [block_of_add]; exact hb)).trans h1
      clear h0 h1
      have HB := Lib.hid hbl
      obtain ⟨x, hxx⟩ : ∃ x, x = (es.getD k d0).1 := ⟨_, rfl⟩
      obtain ⟨v, hvv⟩ : ∃ v, v = (es.getD k d0).2 := ⟨_, rfl⟩
      rw [← hxx] at g0
      rw [← hvv] at g1
      have HX := Lib.hid hxx
      have HV := Lib.hid hvv
      clear hxx hvv
      have HBW : Hid (Below w.heap.size w (wr.alloc (.cells #[.string x, .int .i64 v] 23))) := Lib.hid (HB.out.alloc HB.out.size _)
      cases hr : rightL x.data.toList with
      | false =>
        have HF : Hid (okB es = false) := Lib.hid (not_at LX.out HLT.out (fun q => by have := q.1.1; rw [← HX.out, hr] at this; cases this))
        go_wp2_with (first
          | (go_at_call 25; refine (right_any x _).mono ?_; rintro e w' ⟨rfl, rfl⟩; rw [hr])
          | fail)
        go_ret
        exact ⟨by rw [HF.out]; rfl, HBW.out⟩
      | true =>
        by_cases hv0 : v < 0
        · have HF : Hid (okB es = false) := Lib.hid (not_at LX.out HLT.out (fun q => by have := q.1.2.1; rw [← HV.out] at this; omega))
          go_wp2_with (first
            | (go_at_call 25; refine (right_any x _).mono ?_; rintro e w' ⟨rfl, rfl⟩; rw [hr])
            | fail)
          go_ret
          exact ⟨by rw [HF.out]; rfl, HBW.out⟩
        · by_cases hv1 : 1099511627776 < v
          · have HF : Hid (okB es = false) := Lib.hid (not_at LX.out HLT.out (fun q => by have := q.1.2.2; rw [← HV.out] at this; omega))
            go_wp2_with (first
              | (go_at_call 25; refine (right_any x _).mono ?_; rintro e w' ⟨rfl, rfl⟩; rw [hr])
              | fail)
            go_ret
            exact ⟨by rw [HF.out]; rfl, HBW.out⟩
          · have HO : Hid (okOne (es.getD k d0)) := Lib.hid ⟨by rw [← HX.out]; exact hr, by rw [← HV.out]; omega, by rw [← HV.out]; omega⟩
            rcases Nat.eq_zero_or_pos k with hkz | hk0
            · have HN : Hid (∀ i, i < k + 1 → OKat es i) := Lib.hid (fun i hi => by
                obtain rfl : i = k := by omega
                exact ⟨HO.out, fun q => absurd q (by omega)⟩)
              subst hkz
              have h00 : ad.add (0 * 2) = ad := by simp [Addr.add]
              rw [h00] at g0 g1
              clear h00
              go_wp2_with (first
                | (go_at_call 25; refine (right_any x _).mono ?_; rintro e w' ⟨rfl, rfl⟩; rw [hr])
                | fail)
              go_quiet (fail)
              go_wp2
              go_roundw
              case rel => exact ⟨0 + 1, by omega, by go_num, HN, belowN HBW.out _⟩
              case measure => simp only [intOf]; omega
            · obtain ⟨ad', e', hb', h0', _⟩ := ents_get hx (k := k - 1) (by omega)
              obtain rfl : ad = ad' := by injection e'
              obtain ⟨j, rfl⟩ : ∃ j, k = j + 1 := ⟨k - 1, by omega⟩
              have hjj : j + 1 - 1 = j := by omega
              rw [hjj] at h0'
              have g2 := (hbl.cell (p := ad.add (j * 2)) (by rw [block_of_add]; exact hb')).trans h0'
              obtain ⟨y, hyy⟩ : ∃ y, y = (es.getD j d0).1 := ⟨_, rfl⟩
              rw [← hyy] at g2
              have HY := Lib.hid hyy
              clear hyy h0'
              have hk1 : (0 : Int) < ((j + 1 : Nat) : Int) := by omega
              have HK0 : Hid (0 < j + 1) := Lib.hid hk0
              clear hk0 hjj
              go_wp2_with (first
                | (go_at_call 25; refine (right_any x _).mono ?_; rintro e w' ⟨rfl, rfl⟩; rw [hr])
                | fail)
              obtain ⟨w1, hw1⟩ : ∃ w1, w1 = wr.alloc (.cells #[.string x, .int .i64 v] 23) := ⟨_, rfl⟩
              have q0 : w1.cell? ⟨wr.heap.size, 0, none⟩ = some (.string x) := by rw [hw1]; exact World.cell?_alloc_at _ _ _ _ rfl
              have q2 : w1.cell? (ad.add (j * 2)) = some (.string y) := by rw [hw1]; exact (World.cell?_alloc_lt _ _ _ (blk_lt g2)).trans g2
              have HBW' : Hid (Below w.heap.size w w1) := by rw [hw1]; exact HBW
              rw [← hw1]
              generalize wr.heap.size = b1 at *
              clear hw1 HBW g0 g1 g2 HB hbl
              cases hyx : lt y x with
              | true =>
                have hyx' : Op.bytesLess y.toList x.toList = true := hyx
                have HN : Hid (∀ i, i < j + 1 + 1 → OKat es i) := Lib.hid (fun i hi => by
                  rcases Nat.lt_or_ge i (j + 1) with q | q
                  · exact HT.out i q
                  · obtain rfl : i = j + 1 := by omega
                    exact ⟨HO.out, fun _ => by show lt (es.getD j d0).1 _ = true; rw [← HX.out, ← HY.out]; exact hyx⟩)
                clear hyx
                go_big_region
                all_goals
                  go_wp2
                  go_roundw
                  case rel => exact ⟨j + 1 + 1, by omega, by go_num, HN, HBW'.out.drew⟩
                  case measure => simp only [intOf]; omega
              | false =>
                have hyx' : Op.bytesLess y.toList x.toList = false := hyx
                have HF : Hid (okB es = false) := Lib.hid (not_at LX.out HLT.out (fun q => by have h2 : lt (es.getD j d0).1 (es.getD (j + 1) d0).1 = true := q.2 HK0.out; rw [← HX.out, ← HY.out, hyx] at h2; cases h2))
                clear hyx
                go_big_region
                all_goals
                  go_wp2
                  go_ret
                  exact ⟨by rw [HF.out]; rfl, HBW'.out.drew⟩
    · obtain rfl : n = k := by omega
      have HEQ : Hid (okB es = true) := Lib.hid (okB_true fun i hi => HT.out i (by rw [LX.out] at hi; exact hi))
      go_wp2
      go_ret
      exact ⟨by rw [HEQ.out]; rfl, hbl⟩
end Go.Proofs.YtbfmklaakjepaaaDoor
