/-
  Filter; conditions: lengths.
-/
import Derived.Test.YthgjpdbajmfclaaMg3
import Derived.Deep.QuietTactic
import Derived.BigQuiet
namespace Go.Proofs.Ythgjpdbajmfclaa
open Go.RowKit Go.WideShapes Go.ChangeShapes
set_option linter.all false
def flt (b : List Int) (occ : Bool) (l : List Int) : List Int := l.filter fun y => decide (y ∈ asc b) == occ
/-- What filter holds. -/
def FJ (a0 b0 : List Int) (occ : Bool) (N : Nat) (w wr : World) (A : Option Addr) (n c : Nat) (a : List Int) (D : Option Addr) (m d : Nat) (b : List Int) (V : Value) (R : List Int) : Prop :=
  SI wr N A n c a ∧ SI wr N D m d b ∧ Mid wr N 3 1 V R.length (ks .i64 R) ∧ Below N w wr ∧ R ++ flt b0 occ (asc a) = flt b0 occ (asc a0) ∧ (∀ y ∈ asc a, (y ∈ asc b0 ↔ y ∈ asc b)) ∧ R.length + a.length ≤ a0.length
section
variable {a0 b0 : List Int} {occ : Bool} {N : Nat} {w wr : World} {A : Option Addr} {n c : Nat} {a : List Int} {D : Option Addr} {m d : Nat} {b : List Int} {V : Value} {R : List Int}
theorem FJ.drewN (h : FJ a0 b0 occ N w wr A n c a D m d b V R) (k : Nat) : FJ a0 b0 occ N w (wr.drewN k) A n c a D m d b V R :=
  ⟨h.1, h.2.1, h.2.2.1, ⟨h.2.2.2.1.os, h.2.2.2.1.tape, h.2.2.2.1.output, h.2.2.2.1.size, h.2.2.2.1.block⟩, h.2.2.2.2⟩
theorem FJ.drew (h : FJ a0 b0 occ N w wr A n c a D m d b V R) : FJ a0 b0 occ N w wr.drew A n c a D m d b V R :=
  ⟨h.1, h.2.1, h.2.2.1, h.2.2.2.1.drew, h.2.2.2.2⟩
/-- b goes on: its first number is less than a's. -/
theorem FJ.skip {x z : Int} {r t : List Int} {D' : Option Addr} {m' d' : Nat} (h : FJ a0 b0 occ N w wr A n c a D m d b V R) (ha : a = x :: r) (hb : b = z :: t) (hz : z < x) (hs : SI wr N D' m' d' (adv b)) : FJ a0 b0 occ N w wr A n c a D' m' d' (adv b) V R := by
  refine ⟨h.1, hs, h.2.2.1, h.2.2.2.1, h.2.2.2.2.1, fun y hy => ?_, h.2.2.2.2.2.2⟩
  rw [h.2.2.2.2.2.1 y hy]
  have hge := asc_least a y hy
  rw [ha] at hge
  simp at hge
  rw [hb]
  constructor
  · intro h1; exact asc_more h1 (by omega)
  · intro h1; rw [asc_cons]; exact List.mem_cons_of_mem _ h1
/-- Is a's first number in b? -/
theorem FJ.hit0 {x : Int} {r : List Int} (h : FJ a0 b0 occ N w wr A n c a D m d b V R) (ha : a = x :: r) (hb : b = []) : decide (x ∈ asc b0) = false := by
  have hx : x ∈ asc a := by rw [ha, asc_cons]; simp
  have hiff := h.2.2.2.2.2.1 x hx
  rw [hb, asc_nil] at hiff
  exact decide_eq_false (fun h1 => by have := hiff.1 h1; simp at this)
theorem FJ.hit1 {x z : Int} {r t : List Int} (h : FJ a0 b0 occ N w wr A n c a D m d b V R) (ha : a = x :: r) (hb : b = z :: t) (hz : ¬ z < x) : decide (x ∈ asc b0) = (z == x) := by
  have hx : x ∈ asc a := by rw [ha, asc_cons]; simp
  have hiff := h.2.2.2.2.2.1 x hx
  rw [hb, asc_cons] at hiff
  by_cases e : z = x
  · subst e; rw [decide_eq_true (hiff.2 (by simp))]; simp
  · have hn : x ∉ asc b0 := fun h1 => by
      have h2 := hiff.1 h1
      rw [List.mem_cons] at h2
      rcases h2 with h2 | h2
      · exact e h2.symm
      · have := asc_adv_gt h2; omega
    rw [decide_eq_false hn]; simpa using e
theorem FJ.on {x : Int} {r : List Int} {A' : Option Addr} {n' c' : Nat} {wr' : World} {V' : Value} {R' : List Int} (h : FJ a0 b0 occ N w wr A n c a D m d b V R) (ha : a = x :: r) (hs : SI wr' N A' n' c' (adv a)) (hd : SI wr' N D m d b) (hm : Mid wr' N 3 1 V' R'.length (ks .i64 R')) (hb : Below N w wr') (hR : R' = if (decide (x ∈ asc b0) == occ) = true then R ++ [x] else R) : FJ a0 b0 occ N w wr' A' n' c' (adv a) D m d b V' R' := by
  have hl := adv_len x r
  refine ⟨hs, hd, hm, hb, ?_, fun y hy => h.2.2.2.2.2.1 y (by rw [ha, asc_cons, ← ha]; exact List.mem_cons_of_mem _ hy), ?_⟩
  · rw [← h.2.2.2.2.1, hR]
    conv => rhs; rw [ha, asc_cons, ← ha]
    unfold flt
    rw [List.filter_cons]
    split <;> simp
  · have := h.2.2.2.2.2.2
    rw [ha] at this ⊢
    rw [hR]
    simp only [List.length_cons] at this
    split
    · rw [List.length_append]; simp; omega
    · omega
end
theorem adv_less {l : List Int} {n n' : Nat} {x : Int} {r : List Int} (h : (adv l).length = n') (hl : l.length = n) (hx : l = x :: r) : n' < n := by
  subst hx
  have := adv_len x r
  simp only [List.length_cons] at hl
  omega
set_option maxRecDepth 100000 in
set_option maxHeartbeats 3200000 in
theorem flt_any (A D : Option Addr) (n c m d : Nat) (a b : List Int) (occ : Bool) (w : World) (ha : SI w w.heap.size A n c a) (hb : SI w w.heap.size D m d b) (hn : n ≤ 2000) (hm : m ≤ 2000) :
    Calls Try.prog 19 #[.slice A n c, .slice D m d, .bool occ] w fun e w' => ∃ v, e = .returned v ∧ Mid w' w.heap.size 3 1 v (flt b occ (asc a)).length (ks .i64 (flt b occ (asc a))) ∧ Below w.heap.size w w' := by
  obtain ⟨i0, hi0, hz0, hz1, hz2⟩ := info_parts infoI
  have HA0 := Lib.hid ha
  have HB0 := Lib.hid hb
  clear ha hb
  go_enter Try.func19, Try.ntmps19
  go_wp2
  go_loopw [0, 1, 7] (fun p q v wr => ∃ (A' : Option Addr) (n' c' : Nat) (a' : List Int) (D' : Option Addr) (m' d' : Nat) (b' : List Int) (V : Value) (R : List Int), p = .slice A' n' c' ∧ q = .slice D' m' d' ∧ v = V ∧ n' ≤ n ∧ m' ≤ m ∧ R.length + n' ≤ n ∧ Hid (FJ a b occ w.heap.size w wr A' n' c' a' D' m' d' b' V R)) (fun p _ _ _ => lenV p)
  case atStart => exact ⟨A, n, c, a, D, m, d, b, _, [], rfl, rfl, rfl, Nat.le_refl _, Nat.le_refl _, by simp, Lib.hid ⟨HA0.out, HB0.out, Mid.nil _ _ _ _, Below.refl _ _, rfl, fun y _ => Iff.rfl, by simp⟩⟩
  case round =>
    obtain ⟨A', n', c', a', D', m', d', b', V, R, rfl, rfl, rfl, hn', hm', hRn, HI⟩ := hrel
    obtain ⟨A6, c6, rfl⟩ := HI.out.2.2.1.form
    by_cases h0 : n' = 0
    · subst h0
      go_wp2
      go_ret
      have e : a' = [] := List.eq_nil_of_length_eq_zero HI.out.1.len
      have e2 : R = flt b occ (asc a) := by have := HI.out.2.2.2.2.1; rw [e, asc_nil] at this; simpa [flt] using this
      exact ⟨_, rfl, by rw [← e2]; exact HI.out.2.2.1, HI.out.2.2.2.1⟩
    · have hposn : 0 < n' := by omega
      have HLA := Lib.hid HI.out.1.len
      obtain ⟨ad, x, r, rfl, ha', _⟩ := HI.out.1.head (by omega)
      have HXR := Lib.hid ha'
      clear ha'
      go_wp2
      go_loopw [1] (fun q wr2 => ∃ (D2 : Option Addr) (m2 d2 : Nat) (b2 : List Int), q = .slice D2 m2 d2 ∧ m2 ≤ m ∧ Hid (FJ a b occ w.heap.size w wr2 (some ad) n' c' a' D2 m2 d2 b2 (.slice A6 R.length c6) R)) (fun q _ => lenV q)
      case atStart => exact ⟨D', m', d', b', rfl, hm', HI⟩
      case round =>
        clear HI
        obtain ⟨D2, m2, d2, b2, rfl, hm2, HI⟩ := hrel
        obtain ⟨ad', x', r', ea, hx', hcx⟩ := HI.out.1.head (by omega)
        injection ea with ea
        subst ea
        rw [HXR.out] at hx'
        injection hx' with hx1 hx2
        subst hx1 hx2
        by_cases hm0 : m2 = 0
        · subst hm0
          have hbz : b2 = [] := List.eq_nil_of_length_eq_zero HI.out.2.1.len
          have HH : Hid (decide (x ∈ asc b) = false) := Lib.hid (HI.out.hit0 HXR.out hbz)
          clear hbz
          cases occ with
          | false =>
            go_wp2
            go_quiet (fail)
            revert nq
            intro q1
            go_wp2
            go_quiet (fail)
            have HI2 := Lib.hid (HI.out.drewN (q1 + nq))
            go_wp2_with (first
              | (refine wpList_append_mid rfl (.tmp 39) (.tmp 43) 22 rfl w.heap.size 3 i0 _ 1 8 Try.underlying22 hi0 hz0 hz1 hz2 rfl (by omega) (.slice A6 R.length c6) R.length _ rfl (HI2.out.2.2.1.same fun g hg => Below.heap_alloc _ _ g (HI2.out.2.2.1.lt g hg).2) ⟨_, 0, none⟩ 1 1 [.int .i64 x] rfl rfl (World.news_of_block (cs := #[.int .i64 x]) (t := 3) (fr := (0, 0)) (heap_alloc_new _ _)) (by simp [Value.oneCell']) (by unfold maxLen; omega) (by omega) (by have := HI2.out.2.2.2.1.size; simp at this ⊢; omega) ?_
                 intro v' w3 hmm hran
                 have HMM := Lib.hid hmm
                 have hgrow : Below w.heap.size _ w3 := (Below.refl _ _).grown hran.alloc.grown HI2.out.2.2.2.1.size (fun g hg => (HI2.out.2.2.1.lt g hg).1)
                 have HB3 := Lib.hid (HI2.out.2.2.2.1.trans hgrow)
                 have HS4 := Lib.hid (HI2.out.1.below hgrow)
                 have HD4 := Lib.hid (HI2.out.2.1.below hgrow)
                 clear hmm hran hgrow)
              | (go_at_call 21; refine (adv_any w.heap.size (some ad) n' c' a' _ HS4.out).mono ?_
                 rintro e w4 ⟨A9, n9, c9, rfl, hs9, hw4⟩
                 rw [hw4]
                 have HS9 := Lib.hid hs9
                 have hl9 : n9 < n' := adv_less hs9.len HLA.out HXR.out
                 clear hs9 hw4)
              | fail)
            go_roundw
            case rel => exact ⟨A9, n9, c9, adv a', D2, 0, d2, b2, v', R ++ [x], rfl, rfl, rfl, by omega, hm2, by rw [List.length_append]; simp; omega, Lib.hid (HI2.out.on HXR.out HS9.out HD4.out (by rw [List.length_append, ks_snoc]; exact HMM.out) HB3.out (by rw [HH.out]; rfl))⟩
            case measure => exact hl9
          | true =>
            go_wp2
            go_quiet (fail)
            revert nq
            intro q1
            go_wp2
            go_quiet (fail)
            have HI2 := Lib.hid (HI.out.drewN (q1 + nq))
            go_wp2_with (first
              | (go_at_call 21; refine (adv_any w.heap.size (some ad) n' c' a' _ HI2.out.1).mono ?_
                 rintro e w4 ⟨A9, n9, c9, rfl, hs9, hw4⟩
                 rw [hw4]
                 have HS9 := Lib.hid hs9
                 have hl9 : n9 < n' := adv_less hs9.len HLA.out HXR.out
                 clear hs9 hw4)
              | fail)
            go_roundw
            case rel => exact ⟨A9, n9, c9, adv a', D2, 0, d2, b2, _, R, rfl, rfl, rfl, by omega, hm2, by omega, Lib.hid (HI2.out.on HXR.out HS9.out HI2.out.2.1 HI2.out.2.2.1 HI2.out.2.2.2.1 (by rw [HH.out]; rfl))⟩
            case measure => exact hl9
        · have hmp : 0 < m2 := by omega
          obtain ⟨adb, z, t, rfl, hb', hcz⟩ := HI.out.2.1.head (by omega)
          have HZT := Lib.hid hb'
          have HLB := Lib.hid HI.out.2.1.len
          clear hb'
          by_cases hzx : z < x
          · go_wp2
            go_region
            all_goals
              have HI1 := Lib.hid HI.out.drew
              go_wp2_with (first
                | (go_at_call 21; refine (adv_any w.heap.size (some adb) m2 d2 b2 _ HI1.out.2.1).mono ?_
                   rintro e w4 ⟨A9, n9, c9, rfl, hs9, hw4⟩
                   rw [hw4]
                   have HS9 := Lib.hid hs9
                   have hl9 : n9 < m2 := adv_less hs9.len HLB.out HZT.out
                   clear hs9 hw4)
                | fail)
              go_roundw
              case rel => exact ⟨A9, n9, c9, adv b2, rfl, by omega, Lib.hid (HI1.out.skip HXR.out HZT.out hzx HS9.out)⟩
              case measure => exact hl9
          · have HH : Hid (decide (x ∈ asc b) = (z == x)) := Lib.hid (HI.out.hit1 HXR.out HZT.out hzx)
            by_cases hq : z = x
            · have hq2 : (z == x) = true := by simpa using hq
              have HH2 : Hid (decide (x ∈ asc b) = true) := Lib.hid (HH.out.trans hq2)
              clear hq
              cases occ with
              | true =>
                go_wp2
                go_region
                all_goals
                  have HI1 := Lib.hid HI.out.drew
                  go_wp2
                  go_region
                  all_goals
                    have HI2 := Lib.hid HI1.out.drew
                    go_wp2_with (first
                      | (refine wpList_append_mid rfl (.tmp 39) (.tmp 43) 22 rfl w.heap.size 3 i0 _ 1 8 Try.underlying22 hi0 hz0 hz1 hz2 rfl (by omega) (.slice A6 R.length c6) R.length _ rfl (HI2.out.2.2.1.same fun g hg => Below.heap_alloc _ _ g (HI2.out.2.2.1.lt g hg).2) ⟨_, 0, none⟩ 1 1 [.int .i64 x] rfl rfl (World.news_of_block (cs := #[.int .i64 x]) (t := 3) (fr := (0, 0)) (heap_alloc_new _ _)) (by simp [Value.oneCell']) (by unfold maxLen; omega) (by omega) (by have := HI2.out.2.2.2.1.size; simp at this ⊢; omega) ?_
                         intro v' w3 hmm hran
                         have HMM := Lib.hid hmm
                         have hgrow : Below w.heap.size _ w3 := (Below.refl _ _).grown hran.alloc.grown HI2.out.2.2.2.1.size (fun g hg => (HI2.out.2.2.1.lt g hg).1)
                         have HB3 := Lib.hid (HI2.out.2.2.2.1.trans hgrow)
                         have HS4 := Lib.hid (HI2.out.1.below hgrow)
                         have HD4 := Lib.hid (HI2.out.2.1.below hgrow)
                         clear hmm hran hgrow)
                      | (go_at_call 21; refine (adv_any w.heap.size (some ad) n' c' a' _ HS4.out).mono ?_
                         rintro e w4 ⟨A9, n9, c9, rfl, hs9, hw4⟩
                         rw [hw4]
                         have HS9 := Lib.hid hs9
                         have hl9 : n9 < n' := adv_less hs9.len HLA.out HXR.out
                         clear hs9 hw4)
                      | fail)
                    go_roundw
                    case rel => exact ⟨A9, n9, c9, adv a', some adb, m2, d2, b2, v', R ++ [x], rfl, rfl, rfl, by omega, hm2, by rw [List.length_append]; simp; omega, Lib.hid (HI2.out.on HXR.out HS9.out HD4.out (by rw [List.length_append, ks_snoc]; exact HMM.out) HB3.out (by rw [HH2.out]; rfl))⟩
                    case measure => exact hl9
              | false =>
                go_wp2
                go_region
                all_goals
                  have HI1 := Lib.hid HI.out.drew
                  go_wp2
                  go_region
                  all_goals
                    have HI2 := Lib.hid HI1.out.drew
                    go_wp2_with (first
                      | (go_at_call 21; refine (adv_any w.heap.size (some ad) n' c' a' _ HI2.out.1).mono ?_
                         rintro e w4 ⟨A9, n9, c9, rfl, hs9, hw4⟩
                         rw [hw4]
                         have HS9 := Lib.hid hs9
                         have hl9 : n9 < n' := adv_less hs9.len HLA.out HXR.out
                         clear hs9 hw4)
                      | fail)
                    go_roundw
                    case rel => exact ⟨A9, n9, c9, adv a', some adb, m2, d2, b2, _, R, rfl, rfl, rfl, by omega, hm2, by omega, Lib.hid (HI2.out.on HXR.out HS9.out HI2.out.2.1 HI2.out.2.2.1 HI2.out.2.2.2.1 (by rw [HH2.out]; rfl))⟩
                    case measure => exact hl9
            · have hq2 : (z == x) = false := by simpa using hq
              have HH2 : Hid (decide (x ∈ asc b) = false) := Lib.hid (HH.out.trans hq2)
              cases occ with
              | false =>
                go_wp2
                go_region
                all_goals
                  have HI1 := Lib.hid HI.out.drew
                  go_wp2
                  go_region
                  all_goals
                    have HI2 := Lib.hid HI1.out.drew
                    go_wp2_with (first
                      | (refine wpList_append_mid rfl (.tmp 39) (.tmp 43) 22 rfl w.heap.size 3 i0 _ 1 8 Try.underlying22 hi0 hz0 hz1 hz2 rfl (by omega) (.slice A6 R.length c6) R.length _ rfl (HI2.out.2.2.1.same fun g hg => Below.heap_alloc _ _ g (HI2.out.2.2.1.lt g hg).2) ⟨_, 0, none⟩ 1 1 [.int .i64 x] rfl rfl (World.news_of_block (cs := #[.int .i64 x]) (t := 3) (fr := (0, 0)) (heap_alloc_new _ _)) (by simp [Value.oneCell']) (by unfold maxLen; omega) (by omega) (by have := HI2.out.2.2.2.1.size; simp at this ⊢; omega) ?_
                         intro v' w3 hmm hran
                         have HMM := Lib.hid hmm
                         have hgrow : Below w.heap.size _ w3 := (Below.refl _ _).grown hran.alloc.grown HI2.out.2.2.2.1.size (fun g hg => (HI2.out.2.2.1.lt g hg).1)
                         have HB3 := Lib.hid (HI2.out.2.2.2.1.trans hgrow)
                         have HS4 := Lib.hid (HI2.out.1.below hgrow)
                         have HD4 := Lib.hid (HI2.out.2.1.below hgrow)
                         clear hmm hran hgrow)
                      | (go_at_call 21; refine (adv_any w.heap.size (some ad) n' c' a' _ HS4.out).mono ?_
                         rintro e w4 ⟨A9, n9, c9, rfl, hs9, hw4⟩
                         rw [hw4]
                         have HS9 := Lib.hid hs9
                         have hl9 : n9 < n' := adv_less hs9.len HLA.out HXR.out
                         clear hs9 hw4)
                      | fail)
                    go_roundw
                    case rel => exact ⟨A9, n9, c9, adv a', some adb, m2, d2, b2, v', R ++ [x], rfl, rfl, rfl, by omega, hm2, by rw [List.length_append]; simp; omega, Lib.hid (HI2.out.on HXR.out HS9.out HD4.out (by rw [List.length_append, ks_snoc]; exact HMM.out) HB3.out (by rw [HH2.out]; rfl))⟩
                    case measure => exact hl9
              | true =>
                go_wp2
                go_region
                all_goals
                  have HI1 := Lib.hid HI.out.drew
                  go_wp2
                  go_region
                  all_goals
                    have HI2 := Lib.hid HI1.out.drew
                    go_wp2_with (first
                      | (go_at_call 21; refine (adv_any w.heap.size (some ad) n' c' a' _ HI2.out.1).mono ?_
                         rintro e w4 ⟨A9, n9, c9, rfl, hs9, hw4⟩
                         rw [hw4]
                         have HS9 := Lib.hid hs9
                         have hl9 : n9 < n' := adv_less hs9.len HLA.out HXR.out
                         clear hs9 hw4)
                      | fail)
                    go_roundw
                    case rel => exact ⟨A9, n9, c9, adv a', some adb, m2, d2, b2, _, R, rfl, rfl, rfl, by omega, hm2, by omega, Lib.hid (HI2.out.on HXR.out HS9.out HI2.out.2.1 HI2.out.2.2.1 HI2.out.2.2.2.1 (by rw [HH2.out]; rfl))⟩
                    case measure => exact hl9
end Go.Proofs.Ythgjpdbajmfclaa
