/-
  What up and down do to a list: pure facts.
-/
import Derived.Test.YtndmpdpmfieacaaPl8
namespace Go.Proofs.Ytndmpdpmfieacaa
set_option linter.all false
theorem swp_perm (xs : List Int) (i j : Nat) (hi : i < xs.length) (hj : j < xs.length) : (swp xs i j).Perm xs := by
  unfold swp
  rw [List.getD_eq_getElem?_getD, List.getD_eq_getElem?_getD, List.getElem?_eq_getElem hi, List.getElem?_eq_getElem hj]
  exact List.set_set_perm hi hj
theorem upF_perm : ∀ (j : Nat) (xs : List Int), j < xs.length → (upF xs j).Perm xs := by
  intro j
  induction j using Nat.strongRecOn with
  | ind j ih =>
    intro xs h
    cases j with
    | zero => rw [upF_zero]
    | succ m =>
      by_cases hb : xs.getD (m + 1) 0 < xs.getD (m / 2) 0
      · rw [upF_go _ _ hb]
        exact (ih (m / 2) (by omega) _ (by rw [swp_len]; omega)).trans (swp_perm _ _ _ (by omega) h)
      · rw [upF_stop _ _ hb]
theorem downF_perm (n : Nat) : ∀ (k i : Nat) (xs : List Int), n - i ≤ k → n ≤ xs.length → (downF xs i n).Perm xs := by
  intro k
  induction k with
  | zero => intro i xs h1 h2; rw [downF_end _ _ _ (by omega)]
  | succ k ih =>
    intro i xs h1 h2
    by_cases h : 2 * i + 1 < n
    · have a := kid_lt xs i n h
      have b := kid_gt xs i n
      by_cases h3 : xs.getD (kid xs i n) 0 < xs.getD i 0
      · rw [downF_go _ _ _ h h3]
        exact (ih _ _ (by omega) (by rw [swp_len]; omega)).trans (swp_perm _ _ _ (by omega) (by omega))
      · rw [downF_stop _ _ _ h h3]
    · rw [downF_end _ _ _ h]
end Go.Proofs.Ytndmpdpmfieacaa
