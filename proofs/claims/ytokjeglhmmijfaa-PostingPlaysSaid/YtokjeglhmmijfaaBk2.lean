/-
  Whether ids are a block, as the program and as the document tell it; conditions: lengths.
-/
import Derived.Test.YtokjeglhmmijfaaBk1
import Derived.Test.YtokjeglhmmijfaaBkP
import Derived.IntWalk
namespace Go.Proofs.Ytokjeglhmmijfaa
open Go.RowKit Go.WideShapes Go.ChangeShapes
set_option linter.all false
/-- Do numbers rise from p on, none too great? -/
def ascI (p : Int) : List Int → Bool
  | [] => true
  | x :: r => decide (p ≤ x ∧ x ≤ 1073741824) && ascI (x + 1) r
def rightI (l : List Int) : Bool := decide (1 ≤ l.length ∧ l.length ≤ 16) && ascI 0 l
theorem ascI_cast : ∀ (l : List Nat) (p : Nat), ascI p (l.map Nat.cast) = ascB p l
  | [], _ => rfl
  | x :: r, p => by
    have := ascI_cast r (x + 1)
    simp only [List.map_cons, ascI, ascB]
    rw [show ((x : Int) + 1) = ((x + 1 : Nat) : Int) by omega, this]
    congr 1
    exact decide_eq_decide.2 (by omega)
theorem rightI_cast (l : List Nat) : rightI (l.map Nat.cast) = rightN l := by
  unfold rightI rightN
  rw [List.length_map, show (0 : Int) = ((0 : Nat) : Int) from rfl, ascI_cast]
theorem ascI_nat : ∀ (xs : List Int) (p : Int), 0 ≤ p → ascI p xs = true → ∃ l : List Nat, xs = l.map Nat.cast
  | [], _, _, _ => ⟨[], rfl⟩
  | x :: r, p, hp, h => by
    simp only [ascI, Bool.and_eq_true, decide_eq_true_eq] at h
    obtain ⟨l, rfl⟩ := ascI_nat r (x + 1) (by omega) h.2
    exact ⟨x.toNat :: l, by rw [List.map_cons, Int.toNat_of_nonneg (by omega)]⟩
theorem rightI_nat {xs : List Int} (h : rightI xs = true) : ∃ l : List Nat, xs = l.map Nat.cast ∧ rightN l = true := by
  have h' := h
  unfold rightI at h'
  rw [Bool.and_eq_true] at h'
  obtain ⟨l, rfl⟩ := ascI_nat xs 0 (by omega) h'.2
  exact ⟨l, rfl, by rw [← rightI_cast]; exact h⟩
/-- The least that may follow. -/
def pI (xs : List Int) (i : Nat) : Int := if i = 0 then 0 else xs.getD (i - 1) 0 + 1
theorem drop_at {xs : List Int} {i : Nat} (h : i < xs.length) : xs.drop i = xs.getD i 0 :: xs.drop (i + 1) := by
  rw [List.drop_eq_getElem_cons h, List.getD_eq_getElem?_getD, List.getElem?_eq_getElem h]; rfl
theorem asc_good {xs : List Int} {i : Nat} (h : i < xs.length) (hg : pI xs i ≤ xs.getD i 0 ∧ xs.getD i 0 ≤ 1073741824) : ascI (pI xs i) (xs.drop i) = ascI (pI xs (i + 1)) (xs.drop (i + 1)) := by
  rw [drop_at h, ascI, decide_eq_true hg, Bool.true_and]
  rfl
theorem asc_bad {xs : List Int} {i : Nat} (h : i < xs.length) (hg : ¬ (pI xs i ≤ xs.getD i 0 ∧ xs.getD i 0 ≤ 1073741824)) : ascI (pI xs i) (xs.drop i) = false := by
  rw [drop_at h, ascI, decide_eq_false hg, Bool.false_and]
theorem right_no {xs : List Int} (h : xs.length < 1 ∨ 16 < xs.length) : rightI xs = false := by
  unfold rightI; rw [decide_eq_false (by omega), Bool.false_and]
theorem right_asc {xs : List Int} (h : 1 ≤ xs.length ∧ xs.length ≤ 16) : rightI xs = ascI 0 xs := by
  unfold rightI; rw [decide_eq_true h, Bool.true_and]
theorem bool_eq {a b : Bool} (h : a = b) : Ending.returned (.bool a) = .returned (.bool b) := by rw [h]
set_option maxRecDepth 100000 in
set_option maxHeartbeats 800000 in
theorem right_any (B : Nat) (A : Option Addr) (n c : Nat) (xs : List Int) (w : World) (hx : Reads w B 1 A n (ks .i64 xs)) (hn : n ≤ 9223372036854775807) :
    Calls Try.prog 43 #[.slice A n c] w fun e w' => e = .returned (.bool (rightI xs)) ∧ w' = w := by
  have LX : Hid (xs.length = n) := Lib.hid hx.kl
  by_cases hr : 1 ≤ n ∧ n ≤ 16
  · have HR := Lib.hid (right_asc (xs := xs) (by rw [LX.out]; exact hr))
    obtain ⟨h1, h2⟩ := hr
    have g1 : ¬ (n : Int) < 1 := by omega
    have g2 : ¬ (n : Int) > 16 := by omega
    go_enter Try.func43, Try.ntmps43
    go_wp2
    go_loop [15] (fun i => ∃ k : Nat, k ≤ n ∧ i = .int .i64 k ∧ Hid (ascI 0 xs = ascI (pI xs k) (xs.drop k)) ∧ 0 ≤ pI xs k) (fun i => n - (intOf i).toNat)
    case atStart => exact ⟨0, Nat.zero_le _, rfl, Lib.hid rfl, Int.le_refl _⟩
    case round =>
      obtain ⟨k, hk, rfl, HA, hp0⟩ := hrel
      by_cases hlt : k < n
      · obtain ⟨ad, rfl, h1⟩ := hx.kat hlt
        have hlx : k < xs.length := by rw [LX.out]; exact hlt
        have HLX := Lib.hid hlx
        have hk9 : (k : Int) < n := by omega
        have hk0 : (0 : Int) ≤ k := by omega
        have hpk : k = 0 ∧ pI xs k = 0 ∨ ∃ m, k = m + 1 ∧ pI xs k = xs.getD m 0 + 1 := by
          cases k with
          | zero => exact .inl ⟨rfl, rfl⟩
          | succ m => exact .inr ⟨m, rfl, rfl⟩
        by_cases hneg : xs.getD k 0 < 0
        · have HB := Lib.hid (asc_bad hlx (by omega))
          clear hlx hpk
          generalize xs.getD k 0 = x at *
          go_wp2
          go_ret
          exact ⟨bool_eq (HR.out.trans (HA.out.trans HB.out)).symm, rfl⟩
        · by_cases hbig : xs.getD k 0 > 1073741824
          · have HB := Lib.hid (asc_bad hlx (by omega))
            clear hlx hpk
            generalize xs.getD k 0 = x at *
            go_wp2
            go_ret
            exact ⟨bool_eq (HR.out.trans (HA.out.trans HB.out)).symm, rfl⟩
          · rcases hpk with ⟨rfl, hp1⟩ | ⟨m, rfl, hp1⟩
            · have HG := Lib.hid (asc_good hlx (by omega))
              have h1' : w.cell? ad = some (.int .i64 (xs.getD 0 0)) := by rw [← h1]; rfl
              have HP : Hid (0 ≤ pI xs (0 + 1)) := Lib.hid (by show (0 : Int) ≤ xs.getD 0 0 + 1; omega)
              clear hlx hp1
              generalize xs.getD 0 0 = x at *
              go_wp2
              go_round
              case rel => exact ⟨1, by omega, by first | rfl | go_num, Lib.hid (HA.out.trans HG.out), HP.out⟩
              case measure => simp only [intOf]; omega
            · obtain ⟨ad', e', h2⟩ := hx.kat (show m < n by omega)
              injection e' with e'
              subst e'
              have hm9 : (m : Int) + 1 < n := by omega
              have h1' : w.cell? ⟨ad.block, ad.off + (m + 1), none⟩ = some (.int .i64 (xs.getD (m + 1) 0)) := by rw [← h1]; unfold Addr.add; rw [if_neg (by omega)]
              have hm0 : (0 : Int) ≤ m := by omega
              have hmm : m < n := by omega
              by_cases hle : xs.getD m 0 ≥ xs.getD (m + 1) 0
              · have HB := Lib.hid (asc_bad hlx (by omega))
                clear hlx hp1
                generalize xs.getD (m + 1) 0 = x at *
                generalize xs.getD m 0 = y at *
                go_wp2
                go_ret
                exact ⟨bool_eq (HR.out.trans (HA.out.trans HB.out)).symm, rfl⟩
              · have HG := Lib.hid (asc_good hlx (by omega))
                have HP : Hid (0 ≤ pI xs (m + 1 + 1)) := Lib.hid (by show (0 : Int) ≤ xs.getD (m + 1) 0 + 1; omega)
                clear hlx hp1
                generalize xs.getD (m + 1) 0 = x at *
                generalize xs.getD m 0 = y at *
                go_wp2
                go_round
                case rel => exact ⟨m + 1 + 1, by omega, by first | rfl | go_num, Lib.hid (HA.out.trans HG.out), HP.out⟩
                case measure => simp only [intOf]; omega
      · obtain rfl : k = n := by omega
        have HE : Hid (rightI xs = true) := Lib.hid (by rw [HR.out, HA.out, List.drop_of_length_le (by rw [LX.out]; omega)]; rfl)
        go_wp2
        go_ret
        exact ⟨bool_eq HE.out.symm, rfl⟩
  · have HN := Lib.hid (right_no (xs := xs) (by rw [LX.out]; omega))
    have HR := Lib.hid hr
    clear hr
    go_enter Try.func43, Try.ntmps43
    go_wp2
    all_goals first
      | (exfalso; have := HR.out; omega)
      | (go_ret; exact ⟨bool_eq HN.out.symm, rfl⟩)
set_option maxRecDepth 100000 in
set_option maxHeartbeats 800000 in
theorem rids_any (B : Nat) (A : Option Addr) (n c : Nat) (xs : List Int) (w : World) (hx : Reads w B 1 A n (ks .i64 xs)) (hn : n ≤ 1000) :
    Calls Try.prog 52 #[.slice A n c] w fun e w' => e = .returned (.bool (rightI xs)) ∧ w' = w := by
  have LX : Hid (xs.length = n) := Lib.hid hx.kl
  have HR : Hid (∀ b, ascI 0 xs = b → b = false → rightI xs = b) := Lib.hid (fun b hb h0 => by unfold rightI; rw [hb, h0, Bool.and_false])
  go_enter Try.func52, Try.ntmps52
  go_wp2
  go_loop [7] (fun i => ∃ k : Nat, k ≤ n ∧ i = .int .i64 k ∧ Hid (ascI 0 xs = ascI (pI xs k) (xs.drop k)) ∧ 0 ≤ pI xs k) (fun i => n - (intOf i).toNat)
  case atStart => exact ⟨0, Nat.zero_le _, rfl, Lib.hid rfl, Int.le_refl _⟩
  case round =>
    obtain ⟨k, hk, rfl, HA, hp0⟩ := hrel
    by_cases hlt : k < n
    · obtain ⟨ad, rfl, h1⟩ := hx.kat hlt
      have hlx : k < xs.length := by rw [LX.out]; exact hlt
      have HLX := Lib.hid hlx
      have hk9 : (k : Int) < n := by omega
      have hk0 : (0 : Int) ≤ k := by omega
      have hpk : k = 0 ∧ pI xs k = 0 ∨ ∃ m, k = m + 1 ∧ pI xs k = xs.getD m 0 + 1 := by
        cases k with
        | zero => exact .inl ⟨rfl, rfl⟩
        | succ m => exact .inr ⟨m, rfl, rfl⟩
      by_cases hneg : xs.getD k 0 < 0
      · have HB := Lib.hid (asc_bad hlx (by omega))
        clear hlx hpk
        generalize xs.getD k 0 = x at *
        go_wp2
        go_ret
        exact ⟨bool_eq (HR.out _ (HA.out.trans HB.out) rfl).symm, rfl⟩
      · by_cases hbig : xs.getD k 0 > 1073741824
        · have HB := Lib.hid (asc_bad hlx (by omega))
          clear hlx hpk
          generalize xs.getD k 0 = x at *
          go_wp2
          go_ret
          exact ⟨bool_eq (HR.out _ (HA.out.trans HB.out) rfl).symm, rfl⟩
        · rcases hpk with ⟨rfl, hp1⟩ | ⟨m, rfl, hp1⟩
          · have HG := Lib.hid (asc_good hlx (by omega))
            have h1' : w.cell? ad = some (.int .i64 (xs.getD 0 0)) := by rw [← h1]; rfl
            have HP : Hid (0 ≤ pI xs (0 + 1)) := Lib.hid (by show (0 : Int) ≤ xs.getD 0 0 + 1; omega)
            clear hlx hp1
            generalize xs.getD 0 0 = x at *
            go_wp2
            go_round
            case rel => exact ⟨1, by omega, by first | rfl | go_num, Lib.hid (HA.out.trans HG.out), HP.out⟩
            case measure => simp only [intOf]; omega
          · obtain ⟨ad', e', h2⟩ := hx.kat (show m < n by omega)
            injection e' with e'
            subst e'
            have hm9 : (m : Int) + 1 < n := by omega
            have h1' : w.cell? ⟨ad.block, ad.off + (m + 1), none⟩ = some (.int .i64 (xs.getD (m + 1) 0)) := by rw [← h1]; unfold Addr.add; rw [if_neg (by omega)]
            have hm0 : (0 : Int) ≤ m := by omega
            have hmm : m < n := by omega
            by_cases hle : xs.getD m 0 ≥ xs.getD (m + 1) 0
            · have HB := Lib.hid (asc_bad hlx (by omega))
              clear hlx hp1
              generalize xs.getD (m + 1) 0 = x at *
              generalize xs.getD m 0 = y at *
              go_wp2
              go_ret
              exact ⟨bool_eq (HR.out _ (HA.out.trans HB.out) rfl).symm, rfl⟩
            · have HG := Lib.hid (asc_good hlx (by omega))
              have HP : Hid (0 ≤ pI xs (m + 1 + 1)) := Lib.hid (by show (0 : Int) ≤ xs.getD (m + 1) 0 + 1; omega)
              clear hlx hp1
              generalize xs.getD (m + 1) 0 = x at *
              generalize xs.getD m 0 = y at *
              go_wp2
              go_round
              case rel => exact ⟨m + 1 + 1, by omega, by first | rfl | go_num, Lib.hid (HA.out.trans HG.out), HP.out⟩
              case measure => simp only [intOf]; omega
    · obtain rfl : k = n := by omega
      have HE : Hid (ascI 0 xs = true) := Lib.hid (by rw [HA.out, List.drop_of_length_le (by rw [LX.out]; omega)]; rfl)
      by_cases hr : 1 ≤ k ∧ k ≤ 16
      · have HT : Hid (rightI xs = true) := Lib.hid (by rw [right_asc (by rw [LX.out]; exact hr), HE.out])
        obtain ⟨h1, h2⟩ := hr
        have g1 : (1 : Int) ≤ k := by omega
        have g2 : (k : Int) ≤ 16 := by omega
        go_wp2
        go_ret
        exact ⟨bool_eq HT.out.symm, rfl⟩
      · have HT : Hid (rightI xs = false) := Lib.hid (right_no (by rw [LX.out]; omega))
        by_cases h1 : 1 ≤ k
        · have g1 : (1 : Int) ≤ k := by omega
          have g2 : ¬ (k : Int) ≤ 16 := by omega
          clear hr
          go_wp2
          go_ret
          exact ⟨bool_eq HT.out.symm, rfl⟩
        · have g1 : ¬ (1 : Int) ≤ k := by omega
          clear hr
          go_wp2
          go_ret
          exact ⟨bool_eq HT.out.symm, rfl⟩
end Go.Proofs.Ytokjeglhmmijfaa
