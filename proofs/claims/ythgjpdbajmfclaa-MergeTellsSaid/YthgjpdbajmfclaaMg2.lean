/-
  Advance, ascending, filter: what the program makes of lists; conditions: lengths.
-/
import Derived.Test.YthgjpdbajmfclaaMg1
import Derived.Test.YthgjpdbajmfclaaMgT
namespace Go.Proofs.Ythgjpdbajmfclaa
open Go.RowKit Go.WideShapes Go.ChangeShapes
set_option linter.all false
/-- A list of ints in a slice whose room is told. -/
def SI (w : World) (B : Nat) (A : Option Addr) (n c : Nat) (l : List Int) : Prop := n ≤ c ∧ c ≤ maxLen ∧ (A = none → n = 0) ∧ Reads w B 1 A n (ks .i64 l)
theorem SI.len {w : World} {B n c : Nat} {A : Option Addr} {l : List Int} (h : SI w B A n c l) : l.length = n := h.2.2.2.kl
theorem SI.nil (w : World) (B : Nat) : SI w B none 0 0 [] := ⟨Nat.le_refl _, by unfold maxLen; omega, fun _ => rfl, Reads.none_⟩
theorem SI.below {w w' : World} {B n c : Nat} {A : Option Addr} {l : List Int} (h : SI w B A n c l) (hb : Below B w w') : SI w' B A n c l := ⟨h.1, h.2.1, h.2.2.1, h.2.2.2.below hb⟩
theorem SI.more {w : World} {B B' n c : Nat} {A : Option Addr} {l : List Int} (h : SI w B A n c l) (hb : B ≤ B') : SI w B' A n c l := ⟨h.1, h.2.1, h.2.2.1, h.2.2.2.more hb⟩
theorem SI.on {w w' : World} {n c : Nat} {A : Option Addr} {l : List Int} (h : SI w w.heap.size A n c l) (hb : Below w.heap.size w w') : SI w' w'.heap.size A n c l := (h.below hb).more hb.size
theorem SI.drop {w : World} {B n c k : Nat} {A : Option Addr} {l : List Int} (h : SI w B A n c l) (hk : k ≤ n) : SI w B (if c = k then A else A.map (·.add k)) (n - k) (c - k) (l.drop k) := by
  refine ⟨by have := h.1; omega, by have := h.2.1; omega, fun e => ?_, ?_⟩
  · split at e
    · rename_i h1; have := h.1; omega
    · have : A = none := by cases A with | none => rfl | some a => cases e
      have := h.2.2.1 this; omega
  · have := h.2.2.2.cut (k := k) (cap := c) hk h.1
    rw [Nat.mul_one] at this
    unfold ks at this ⊢
    rwa [← List.map_drop] at this
theorem drop_at {l : List Int} {k : Nat} (h : k < l.length) : l.drop k = l.getD k 0 :: l.drop (k + 1) := by
  rw [List.drop_eq_getElem_cons h, List.getD_eq_getElem?_getD, List.getElem?_eq_getElem h]; rfl
/-- What advance leaves of l, when k numbers have been looked at that aren't greater. -/
theorem adv_at {x : Int} {r l : List Int} {k : Nat} (hl : l = x :: r) (hk : 1 ≤ k) (h : adv l = (l.drop k).dropWhile fun y => decide (y ≤ x)) (hlt : k < l.length) : (¬ x < l.getD k 0 → adv l = (l.drop (k + 1)).dropWhile fun y => decide (y ≤ x)) ∧ (x < l.getD k 0 → adv l = l.drop k) := by
  rw [drop_at hlt, List.dropWhile_cons] at h
  refine ⟨fun hx => ?_, fun hx => ?_⟩
  · rw [if_pos (decide_eq_true (by omega))] at h; exact h
  · rw [if_neg (by rw [decide_eq_true_eq]; omega)] at h; rw [h, drop_at hlt]
set_option maxRecDepth 100000 in
set_option maxHeartbeats 800000 in
theorem adv_any (B : Nat) (A : Option Addr) (n c : Nat) (l : List Int) (w : World) (h : SI w B A n c l) :
    Calls Try.prog 21 #[.slice A n c] w fun e w' => ∃ A' n' c', e = .returned (.slice A' n' c') ∧ SI w B A' n' c' (adv l) ∧ w' = w := by
  have hn9 : n ≤ 9223372036854775807 := by have h1 := h.1; have h2 := h.2.1; unfold maxLen at h2; omega
  have HLN : Hid (l.length = n) := Lib.hid h.len
  have HS := Lib.hid h
  have hnc := h.1
  clear h
  obtain ⟨x, hx⟩ : ∃ x, x = l.getD 0 0 := ⟨_, rfl⟩
  have HX := Lib.hid hx
  clear hx
  go_enter Try.func21, Try.ntmps21
  go_wp2
  go_loop [7] (fun i => ∃ k : Nat, k ≤ n ∧ i = .int .i64 k ∧ Hid (k = 0 ∨ (1 ≤ k ∧ adv l = (l.drop k).dropWhile fun y => decide (y ≤ x)))) (fun i => n - (intOf i).toNat)
  case atStart => exact ⟨0, Nat.zero_le _, rfl, Lib.hid (.inl rfl)⟩
  case round =>
    obtain ⟨k, hk, rfl, HI⟩ := hrel
    by_cases hlt : k < n
    · obtain ⟨ad, rfl, h1⟩ := HS.out.2.2.2.kat hlt
      obtain ⟨ad', e0, h0⟩ := HS.out.2.2.2.kat (k := 0) (by omega)
      injection e0 with e0
      subst e0
      have h00 : w.cell? ad = some (.int .i64 x) := by rw [HX.out]; simpa [Addr.add] using h0
      clear h0
      obtain ⟨y, hy⟩ : ∃ y, y = l.getD k 0 := ⟨_, rfl⟩
      rw [← hy] at h1
      have HY := Lib.hid hy
      clear hy
      by_cases hxy : x < y
      · have hgt : y > x := hxy
        have hck : ¬ (c = k) := by omega
        have hkc : (k : Int) ≤ c := by omega
        have hkn : (k : Int) ≤ n := by omega
        have hnc2 : (n : Int) ≤ c := by omega
        have HD : Hid (adv l = l.drop k) := Lib.hid (by
          have hkl : k < l.length := by rw [HLN.out]; exact hlt
          rcases HI.out with h0 | ⟨h1, h2⟩
          · subst h0; rw [HY.out, HX.out] at hxy; omega
          · obtain ⟨a, r, hl⟩ : ∃ a r, l = a :: r := by cases l with | nil => simp at hkl | cons a r => exact ⟨a, r, rfl⟩
            have hax : a = x := by rw [HX.out, hl]; rfl
            rw [hax] at hl
            exact (adv_at hl h1 h2 hkl).2 (by rw [← HY.out]; exact hxy))
        go_wp2
        go_ret
        have := HS.out.drop (k := k) (by omega)
        rw [if_neg hck] at this
        exact ⟨_, _, _, rfl, by rw [HD.out]; exact this, rfl⟩
      · have hgt : ¬ y > x := hxy
        have HN : Hid (k + 1 = 0 ∨ (1 ≤ k + 1 ∧ adv l = (l.drop (k + 1)).dropWhile fun y => decide (y ≤ x))) := Lib.hid (by
          have hkl : k < l.length := by rw [HLN.out]; exact hlt
          obtain ⟨a, r, hl⟩ : ∃ a r, l = a :: r := by cases l with | nil => simp at hkl | cons a r => exact ⟨a, r, rfl⟩
          have hax : a = x := by rw [HX.out, hl]; rfl
          rw [hax] at hl
          rcases HI.out with h0 | ⟨h1, h2⟩
          · subst h0; right; refine ⟨by omega, ?_⟩; rw [hl]; rfl
          · right; exact ⟨by omega, (adv_at hl h1 h2 hkl).1 (by rw [← HY.out]; exact hxy)⟩)
        go_wp2
        go_round
        case rel => exact ⟨k + 1, by omega, by go_num, HN⟩
        case measure => simp only [intOf]; omega
    · obtain rfl : n = k := by omega
      have HD : Hid (adv l = []) := Lib.hid (by
        rcases HI.out with h0 | ⟨h1, h2⟩
        · have : l = [] := List.eq_nil_of_length_eq_zero (by rw [HLN.out]; exact h0)
          subst this; rfl
        · rw [h2, List.drop_of_length_le (by rw [HLN.out]; exact Nat.le_refl _)]; rfl)
      go_wp2
      go_ret
      exact ⟨none, 0, 0, rfl, by rw [HD.out]; exact SI.nil _ _, rfl⟩
end Go.Proofs.Ythgjpdbajmfclaa
