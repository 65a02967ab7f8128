/-
  The law EpochApart at any calls: the walk; no condition.
-/
import Derived.Test.YtafedpphecfgnaaEw4
import Derived.Test.YtafedpphecfgnaaEw5
import Derived.Test.YtafedpphecfgnaaFr
namespace Go.Proofs.Ytafedpphecfgnaa
open Go.RowKit Go.WideShapes Go.ChangeShapes
set_option linter.all false
/-- Each other client's list from c on is its one ref. -/
def Oth (n k c : Nat) (X : Nat → List (Int × Int)) : Prop := ∀ i, c ≤ i → i < n → i ≠ k → X i = [(((65536 + i : Nat) : Int), 0)]
def Bnd (l : List (Int × Int)) : Prop := l.length ≤ 6 ∧ ∀ p ∈ l, 0 ≤ p.2 ∧ p.2 ≤ 1000
structure As (W : World) (E R n k c : Nat) (now : Int) (V : Nat → Value) (X : Nat → List (Int × Int)) (w : World) : Prop where
  es : Es W.heap.size E R n 6 now V X w
  oth : Oth n k c X
  bnd : Bnd (X k)
  bel : Below W.heap.size W w
section
variable {W : World} {E R n k c : Nat} {now : Int} {V : Nat → Value} {X : Nat → List (Int × Int)} {w w' : World}
theorem As.below (h : As W E R n k c now V X w) (hb : Below w.heap.size w w') : As W E R n k c now V X w' := ⟨h.es.below hb, h.oth, h.bnd, h.bel.trans (hb.mono h.bel.size)⟩
theorem As.setNow (h : As W E R n k c now V X w) (m : Int) : As W E R n k c m V X (w.setCell ⟨E, 0, none⟩ (.int .i64 m)) :=
  ⟨h.es.setNow m, h.oth, h.bnd, h.bel.setCell (by have := h.es.ne; have := h.es.low; show W.heap.size ≤ E; omega) _⟩
theorem Oth.upd (h : Oth n k c X) (xs : List (Int × Int)) : Oth n k c (upd X k xs) := fun i h1 h2 h3 => by
  show (if i = k then xs else X i) = _
  rw [if_neg h3]; exact h i h1 h2 h3
theorem upd_self {α : Type} (f : Nat → α) (j : Nat) (a : α) : upd f j a j = a := if_pos rfl
/-- Whatever comes of it: the client k retires a ref. -/
theorem as_retire (h : As W E R n k c now V X w) (hk : k < n) (hn0 : 0 ≤ now) (hn9 : now ≤ 1000) (r : Int) (hr : IsRef r) :
    Calls Try.prog 8 #[.pointer (some ⟨E, 0, none⟩), .int .i64 k, .int .i64 r] w fun e w' => (∃ z : Int, e = .returned (.int .i64 z)) ∧ ∃ V' X', As W E R n k c now V' X' w' := by
  by_cases hl : (X k).length < 6
  · refine (retire_ok h.es k hk r hr (by omega) (by omega)).mono ?_
    rintro e w' ⟨rfl, v', hE, hD⟩
    refine ⟨⟨_, rfl⟩, _, _, hE, h.oth.upd _, ?_, hD.below h.es hk h.bel⟩
    rw [upd_self]
    refine ⟨by simp; omega, fun p hp => ?_⟩
    rcases List.mem_append.1 hp with hp | hp
    · exact h.bnd.2 p hp
    · simp only [List.mem_singleton] at hp
      subst hp
      exact ⟨hn0, hn9⟩
  · refine (retire_full h.es k hk r hr (by omega)).mono ?_
    rintro e w' ⟨rfl, hb⟩
    exact ⟨⟨_, rfl⟩, V, X, h.below hb⟩
/-- Whatever comes of it: the client k collects. -/
theorem as_collect (h : As W E R n k c now V X w) (hk : k < n) (hn0 : 0 ≤ now) (hn9 : now ≤ 1000) :
    Calls Try.prog 12 #[.pointer (some ⟨E, 0, none⟩), .int .i64 k] w fun e w' => (∃ (r : Int) (ok : Bool), e = .returned (.tuple #[.int .i64 r, .bool ok])) ∧ ∃ V' X', As W E R n k c now V' X' w' := by
  cases hx : X k with
  | nil =>
    refine (collect_empty h.es k hk hx).mono ?_
    rintro e w' ⟨rfl, hb⟩
    exact ⟨⟨_, _, rfl⟩, V, X, h.below hb⟩
  | cons p xs =>
    obtain ⟨r, a⟩ := p
    have hb := h.bnd
    rw [hx] at hb
    have ha := hb.2 _ (List.mem_cons_self)
    have hl := hb.1
    simp only [List.length_cons] at hl
    by_cases he : now - a < 2
    · refine (collect_early h.es k hk r a xs hx he ha.1 (by have := ha.2; simp at this; omega) hn0 (by omega) (by omega)).mono ?_
      rintro e w' ⟨rfl, hb⟩
      exact ⟨⟨_, _, rfl⟩, V, X, h.below hb⟩
    · refine (collect_ok h.es k hk r a xs hx (by omega) ha.1 (by have := ha.2; simp at this; omega) hn0 (by omega) (by omega)).mono ?_
      rintro e w' ⟨rfl, v', hE, hD⟩
      refine ⟨⟨_, _, rfl⟩, _, _, hE, h.oth.upd _, ?_, hD.below h.es hk h.bel⟩
      rw [upd_self]
      exact ⟨by omega, fun p hp => hb.2 p (List.mem_cons_of_mem _ hp)⟩
end
set_option maxRecDepth 100000 in
set_option maxHeartbeats 1600000 in
theorem apart_any (a b : Int) (A : Option Addr) (len cap : Nat) (F : Nat → Nat → Int) (W : World) (hx : Recs W A len 3 F) :
    Calls Try.prog 3 #[.int .i64 a, .int .i64 b, .slice A len cap] W fun e w' => e = .returned (.bool true) ∧ Below W.heap.size W w' := by
  obtain ⟨m, hm, hm9⟩ := withinV_nat a 7 (by omega)
  have hm' : withinV a (6 + 1) = m := hm
  have HM := Lib.hid hm'
  clear hm hm'
  obtain ⟨n, hn⟩ : ∃ n, n = m + 2 := ⟨_, rfl⟩
  have hn1 : (2 : Int) + m = n := by omega
  have HN := Lib.hid hn1
  have hn2 : 2 ≤ n := by omega
  have hn9 : n ≤ 8 := by omega
  clear hn hn1
  obtain ⟨k, hk, hk9⟩ := withinV_nat b n (by omega)
  have hk' : withinV b ((n : Int) - 1 + 1) = k := by rw [show (n : Int) - 1 + 1 = n from by omega]; exact hk
  have HK := Lib.hid hk'
  clear hk hk'
  have F1 : Hid True := trivial
  go_enter Try.func3, Try.ntmps3
  go_wp2_with (first
    | (go_at_call 6; clear F1; refine (within_any _ 6 (by omega) (by omega) _).mono ?_; rintro e w1 ⟨rfl, rfl⟩; rw [HM.out])
    | (go_at_call 7; rw [HN.out]; refine (eNew_any n 6 _ (by omega) hn9 (by omega) (by omega)).mono ?_; rintro e w1 ⟨E, rfl, hE, hB⟩)
    | (go_at_call 6; refine (within_any _ _ (by omega) (by omega) _).mono ?_; rintro e w2 ⟨rfl, rfl⟩; rw [HK.out])
    | fail)
  go_loopw [11] (fun i wr => ∃ (c : Nat) (V : Nat → Value) (X : Nat → List (Int × Int)), i = .int .i64 c ∧ c ≤ n ∧ Es W.heap.size E W.heap.size n 6 0 V X wr ∧ Below W.heap.size W wr ∧ Hid ((∀ i, i < c → i ≠ k → X i = [(((65536 + i : Nat) : Int), 0)]) ∧ (∀ i, c ≤ i → X i = []) ∧ X k = [])) (fun i _ => n - (intOf i).toNat)
  case atStart => exact ⟨0, _, _, rfl, by omega, hE, hB, Lib.hid ⟨fun i hi => by omega, fun _ _ => rfl, rfl⟩⟩
  case round =>
    clear hE hB
    obtain ⟨c, V, X, rfl, hc, hE, hB, HX⟩ := hrel
    by_cases hcn : c < n
    · have hc1 : (c : Int) < n := by omega
      by_cases hck : c = k
      · subst hck
        go_wp2
        go_roundw
        case rel => exact ⟨c + 1, V, X, by go_num, by omega, hE, hB, Lib.hid ⟨fun i hi hne => HX.out.1 i (by omega) hne, fun i hi => HX.out.2.1 i (by omega), HX.out.2.2⟩⟩
        case measure => simp only [intOf]; omega
      · have hne : ((c : Int) != (k : Int)) = true := by simp <;> omega
        have hne2 : ((c : Int) == (k : Int)) = false := by simp <;> omega
        have hx0 : X c = [] := HX.out.2.1 c (Nat.le_refl _)
        have HX0 := Lib.hid hx0
        clear hx0
        go_wp2_with (first
          | (go_at_call 9; refine (ref_any c (by omega) _).mono ?_; rintro e w2 ⟨rfl, hb2⟩; have hE2 := hE.below hb2)
          | (go_at_call 8; refine (retire_ok hE2 c hcn _ (parts_any c (by omega)) (by rw [HX0.out]; simp) (by omega)).mono ?_; rintro e w3 ⟨rfl, v', hE3, hD⟩)
          | fail)
        go_roundw
        case rel =>
          refine ⟨c + 1, _, _, by go_num, by omega, hE3, hD.below hE2 hcn (hB.trans (hb2.mono hB.size)), Lib.hid ⟨fun i hi hne => ?_, fun i hi => ?_, ?_⟩⟩
          · show (if i = c then _ else X i) = _
            by_cases e : i = c
            · subst e; rw [if_pos rfl, HX0.out]; rfl
            · rw [if_neg e]; exact HX.out.1 i (by omega) hne
          · show (if i = c then _ else X i) = _
            rw [if_neg (by omega)]; exact HX.out.2.1 i (by omega)
          · show (if k = c then _ else X k) = _
            rw [if_neg (Ne.symm hck)]; exact HX.out.2.2
        case measure => simp only [intOf]; omega
    · obtain rfl : c = n := by omega
      have hA : As W E W.heap.size c k 0 0 V X wr := ⟨hE, fun i _ hi hne => HX.out.1 i hi hne, by rw [HX.out.2.2]; exact ⟨by simp, by simp⟩, hB⟩
      clear HX hE hB
      generalize hcc : c = n at *
      have HCC := Lib.hid hcc
      clear hcc
      go_wp2
      go_loopw [12] (fun i wr => ∃ (j t : Nat) (V : Nat → Value) (X : Nat → List (Int × Int)), i = .int .i64 j ∧ j ≤ 60 ∧ t ≤ j ∧ As W E W.heap.size n k 0 t V X wr) (fun i _ => 60 - (intOf i).toNat)
      case atStart => exact ⟨0, 0, V, X, rfl, by omega, by omega, hA⟩
      case round =>
        clear hA
        obtain ⟨j, t, V, X, rfl, hj, htj, hA⟩ := hrel
        by_cases hin : j < len ∧ j < 60
        · obtain ⟨g1, g2⟩ := hin
          obtain ⟨ad, rfl, hab, hc⟩ := hx j g1
          have hc0 : wr.cell? (ad.add (j * 3)) = some (.int .i64 (F j 0)) := (hA.bel.cell (by rw [block_of_add]; exact hab)).trans (hc 0 (by omega))
          clear hc
          generalize F j 0 = f at *
          by_cases he : f.tmod 2 = 0
          · have he1 : (f.tmod 2 == 0) = true := by simp [he]
            clear he
            have hj100 : (100 : Int) + j = ((100 + j : Nat) : Int) := by omega
            have H100 := Lib.hid hj100
            clear hj100
            go_wp2_with (first
              | (go_at_call 9; rw [H100.out]; refine (ref_any (100 + j) (by omega) _).mono ?_; rintro e w2 ⟨rfl, hb2⟩; have hA2 := hA.below hb2)
              | (go_at_call 8; refine (as_retire hA2 hk9 (by omega) (by omega) _ (parts_any (100 + j) (by omega))).mono ?_; rintro e w3 ⟨⟨z, rfl⟩, V', X', hA3⟩)
              | fail)
            go_loop [13] (fun i => ∃ c : Nat, c ≤ n ∧ i = .int .i64 c) (fun i => n - (intOf i).toNat)
            case atStart => exact ⟨0, by omega, rfl⟩
            case round =>
              obtain ⟨c, hc, rfl⟩ := hrel
              by_cases hcn : c < n
              · have hc1 : (c : Int) < n := by omega
                by_cases hck : c = k
                · subst hck
                  go_wp2
                  go_round
                  case rel => exact ⟨c + 1, by omega, by go_num⟩
                  case measure => simp only [intOf]; omega
                · have hne : ((c : Int) != (k : Int)) = true := by simp <;> omega
                  have hne2 : ((c : Int) == (k : Int)) = false := by simp <;> omega
                  have hx0 : (X' c).length = 1 := by rw [hA3.oth c (Nat.zero_le _) hcn hck]; rfl
                  have HX0 := Lib.hid hx0
                  clear hx0
                  go_wp2_with (first
                    | (go_at_call 13; refine (limbo_in hA3.es c hcn).mono ?_; rintro e w5 ⟨rfl, rfl⟩; rw [HX0.out])
                    | fail)
                  go_round
                  case rel => exact ⟨c + 1, by omega, by go_num⟩
                  case measure => simp only [intOf]; omega
              · obtain rfl : c = n := by omega
                go_wp2
                go_roundw
                case rel => exact ⟨j + 1, t, V', X', by go_num, by omega, by omega, hA3⟩
                case measure => simp only [intOf]; omega
          · have he1 : (f.tmod 2 == 0) = false := by simp [he]
            clear he
            have hA2 := hA.setNow ((t : Int) + 1)
            go_wp2_with (first
              | (go_at_call 11; refine (enow_any hA.es).mono ?_; rintro e w2 ⟨rfl, rfl⟩)
              | (go_at_call 10; refine (eadv_any hA.es (by omega) (by omega)).mono ?_; rintro e w2 ⟨rfl, rfl⟩)
              | (go_at_call 12; refine (as_collect hA2 hk9 (by omega) (by omega)).mono ?_; rintro e w3 ⟨⟨r, ok, rfl⟩, V', X', hA3⟩)
              | fail)
            go_loop [13] (fun i => ∃ c : Nat, c ≤ n ∧ i = .int .i64 c) (fun i => n - (intOf i).toNat)
            case atStart => exact ⟨0, by omega, rfl⟩
            case round =>
              obtain ⟨c, hc, rfl⟩ := hrel
              by_cases hcn : c < n
              · have hc1 : (c : Int) < n := by omega
                by_cases hck : c = k
                · subst hck
                  go_wp2
                  go_round
                  case rel => exact ⟨c + 1, by omega, by go_num⟩
                  case measure => simp only [intOf]; omega
                · have hne : ((c : Int) != (k : Int)) = true := by simp <;> omega
                  have hne2 : ((c : Int) == (k : Int)) = false := by simp <;> omega
                  have hx0 : (X' c).length = 1 := by rw [hA3.oth c (Nat.zero_le _) hcn hck]; rfl
                  have HX0 := Lib.hid hx0
                  clear hx0
                  go_wp2_with (first
                    | (go_at_call 13; refine (limbo_in hA3.es c hcn).mono ?_; rintro e w5 ⟨rfl, rfl⟩; rw [HX0.out])
                    | fail)
                  go_round
                  case rel => exact ⟨c + 1, by omega, by go_num⟩
                  case measure => simp only [intOf]; omega
              · obtain rfl : c = n := by omega
                go_wp2
                go_roundw
                case rel => exact ⟨j + 1, t + 1, V', X', by go_num, by omega, by omega, by rw [show ((t + 1 : Nat) : Int) = (t : Int) + 1 from by omega]; exact hA3⟩
                case measure => simp only [intOf]; omega
        · have HI := Lib.hid hin
          clear hin
          have hA1 := hA.setNow ((t : Int) + 1)
          have hA2 := hA1.setNow ((t : Int) + 1 + 1)
          have G1 : Hid True := trivial
          have G2 : Hid True := trivial
          go_wp2_with (first
            | (go_at_call 11; clear G1; refine (enow_any hA.es).mono ?_; rintro e w2 ⟨rfl, rfl⟩)
            | (go_at_call 10; clear G2; refine (eadv_any hA.es (by omega) (by omega)).mono ?_; rintro e w2 ⟨rfl, rfl⟩)
            | (go_at_call 11; refine (enow_any hA1.es).mono ?_; rintro e w2 ⟨rfl, rfl⟩)
            | (go_at_call 10; refine (eadv_any hA1.es (by omega) (by omega)).mono ?_; rintro e w2 ⟨rfl, rfl⟩)
            | fail)
          all_goals first
            | (exfalso; have := HI.out; omega)
            | skip
          all_goals
            go_loopw [14] (fun i wr => ∃ (c : Nat) (V : Nat → Value) (X : Nat → List (Int × Int)), i = .int .i64 c ∧ c ≤ n ∧ Es W.heap.size E W.heap.size n 6 ((t : Int) + 1 + 1) V X wr ∧ Hid (Oth n k c X) ∧ Below W.heap.size W wr) (fun i _ => n - (intOf i).toNat)
            case atStart => exact ⟨0, V, X, rfl, by omega, hA2.es, Lib.hid hA2.oth, hA2.bel⟩
            case round =>
              clear hA hA1 hA2
              obtain ⟨c, V, X, rfl, hc, hE, HO, hB⟩ := hrel
              by_cases hcn : c < n
              · have hc1 : (c : Int) < n := by omega
                by_cases hck : c = k
                · subst hck
                  go_wp2
                  go_roundw
                  case rel => exact ⟨c + 1, V, X, by go_num, by omega, hE, Lib.hid (fun i h1 => HO.out i (by omega)), hB⟩
                  case measure => simp only [intOf]; omega
                · have hne2 : ((c : Int) == (k : Int)) = false := by simp <;> omega
                  have hx0 : X c = [(((65536 + c : Nat) : Int), 0)] := HO.out c (Nat.le_refl _) hcn hck
                  have HX0 := Lib.hid hx0
                  clear hx0
                  go_wp2_with (first
                    | (go_at_call 12; refine (collect_ok hE c hcn _ _ _ HX0.out (by omega) (by omega) (by omega) (by omega) (by omega) (by simp)).mono ?_; rintro e w3 ⟨rfl, v', hE3, hD⟩; have hB3 := hD.below hE hcn hB)
                    | (go_at_call 9; refine (ref_any c (by omega) _).mono ?_; rintro e w4 ⟨rfl, hb4⟩)
                    | fail)
                  go_roundw
                  case rel =>
                    refine ⟨c + 1, _, _, by go_num, by omega, hE3.below hb4, Lib.hid (fun i h1 h2 h3 => ?_), hB3.trans (hb4.mono hB3.size)⟩
                    show (if i = c then _ else X i) = _
                    rw [if_neg (by omega)]; exact HO.out i (by omega) h2 h3
                  case measure => simp only [intOf]; omega
              · obtain rfl : c = n := by omega
                go_wp2_with (first
                  | (go_at_call 14; refine (epochRuns_any _).mono ?_; rintro e w9 ⟨rfl, hb9⟩)
                  | fail)
                go_ret
                exact ⟨rfl, hB.trans (hb9.mono hB.size)⟩
end Go.Proofs.Ytafedpphecfgnaa
