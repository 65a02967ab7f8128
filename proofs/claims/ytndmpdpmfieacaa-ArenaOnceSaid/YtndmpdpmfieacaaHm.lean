/-
  Heaps as lists: pure facts.
-/
import Derived.Test.YtndmpdpmfieacaaPl9
namespace Go.Proofs.Ytndmpdpmfieacaa
set_option linter.all false
/-- The first n of xs are a heap. -/
def Heaped (xs : List Int) (n : Nat) : Prop := ∀ i, 0 < i → i < n → xs.getD ((i - 1) / 2) 0 ≤ xs.getD i 0
theorem swp_getD (xs : List Int) (i j k : Nat) (hi : i < xs.length) (hj : j < xs.length) :
    (swp xs i j).getD k 0 = if k = j then xs.getD i 0 else if k = i then xs.getD j 0 else xs.getD k 0 := by
  unfold swp
  simp only [List.getD_eq_getElem?_getD, List.getElem?_set, List.length_set]
  by_cases h1 : k = j
  · subst h1; simp [hj]
  · by_cases h2 : k = i
    · subst h2; simp [h1, Ne.symm h1, hi]
    · simp [h1, h2, Ne.symm h1, Ne.symm h2]
theorem Heaped.least {xs : List Int} {n : Nat} (h : Heaped xs n) : ∀ i, i < n → xs.getD 0 0 ≤ xs.getD i 0 := by
  intro i
  induction i using Nat.strongRecOn with
  | ind i ih =>
    intro hi
    by_cases h0 : i = 0
    · subst h0; exact Int.le_refl _
    · exact Int.le_trans (ih ((i - 1) / 2) (by omega) (by omega)) (h i (by omega) hi)
/-- A heap but for the place j, which may be too small. -/
theorem upF_heaped : ∀ (j : Nat) (xs : List Int), j < xs.length →
    (∀ i, 0 < i → i < xs.length → i ≠ j → xs.getD ((i - 1) / 2) 0 ≤ xs.getD i 0) →
    (0 < j → ∀ i, 0 < i → i < xs.length → (i - 1) / 2 = j → xs.getD ((j - 1) / 2) 0 ≤ xs.getD i 0) →
    Heaped (upF xs j) xs.length := by
  intro j
  induction j using Nat.strongRecOn with
  | ind j ih =>
    intro xs hj h1 h2
    cases j with
    | zero => rw [upF_zero]; intro i a b; exact h1 i a b (by omega)
    | succ m =>
      by_cases hb : xs.getD (m + 1) 0 < xs.getD (m / 2) 0
      · rw [upF_go _ _ hb]
        have hm : m / 2 < xs.length := by omega
        have hl := swp_len xs (m / 2) (m + 1)
        rw [← hl]
        refine ih (m / 2) (by omega) _ (by rw [hl]; omega) ?_ ?_
        · intro i a b c
          rw [hl] at b
          rw [swp_getD _ _ _ _ hm hj, swp_getD _ _ _ _ hm hj]
          by_cases e1 : i = m + 1
          · subst e1
            simp only [Nat.add_sub_cancel]
            rw [if_neg (by omega), if_pos trivial, if_pos trivial]; omega
          · rw [if_neg e1, if_neg c]
            have hi := h1 i a b e1
            by_cases e2 : (i - 1) / 2 = m + 1
            · rw [if_pos e2]
              have := h2 (by omega) i a b e2
              simpa using this
            · rw [if_neg e2]
              by_cases e3 : (i - 1) / 2 = m / 2
              · rw [if_pos e3]; rw [e3] at hi; omega
              · rw [if_neg e3]; exact hi
        · intro h0 i a b c
          rw [hl] at b
          rw [swp_getD _ _ _ _ hm hj, swp_getD _ _ _ _ hm hj]
          rw [if_neg (by omega), if_neg (by omega)]
          have hp := h1 (m / 2) h0 hm (by omega)
          by_cases e1 : i = m + 1
          · rw [if_pos e1]; exact hp
          · rw [if_neg e1]
            by_cases e2 : i = m / 2
            · omega
            · rw [if_neg e2]
              have := h1 i a b e1
              rw [c] at this
              omega
      · rw [upF_stop _ _ hb]
        intro i a b
        by_cases e : i = m + 1
        · subst e; simp only [Nat.add_sub_cancel]; omega
        · exact h1 i a b e
theorem kid_le (xs : List Int) (i n k : Nat) (hk : k < n) (h0 : 0 < k) (hp : (k - 1) / 2 = i) : xs.getD (kid xs i n) 0 ≤ xs.getD k 0 := by
  unfold kid
  have h : k = 2 * i + 1 ∨ k = 2 * i + 2 := by omega
  split
  · next h1 => rcases h with rfl | rfl <;> omega
  · next h1 =>
    rcases h with rfl | rfl
    · omega
    · have : ¬ (xs.getD (2 * i + 2) 0 < xs.getD (2 * i + 1) 0) := fun e => h1 ⟨hk, e⟩
      omega
theorem kid_par (xs : List Int) (i n : Nat) : (kid xs i n - 1) / 2 = i := by unfold kid; split <;> omega
/-- A heap but for the place j, which may be too great: among the first n. -/
theorem downF_heaped (n : Nat) : ∀ (k j : Nat) (xs : List Int), n - j ≤ k → n ≤ xs.length →
    (∀ i, 0 < i → i < n → (i - 1) / 2 ≠ j → xs.getD ((i - 1) / 2) 0 ≤ xs.getD i 0) →
    (0 < j → ∀ i, 0 < i → i < n → (i - 1) / 2 = j → xs.getD ((j - 1) / 2) 0 ≤ xs.getD i 0) →
    Heaped (downF xs j n) n := by
  intro k
  induction k with
  | zero => intro j xs hk hn h1 h2; rw [downF_end _ _ _ (by omega)]; intro i a b; exact h1 i a b (by omega)
  | succ k ih =>
    intro j xs hk hn h1 h2
    by_cases h : 2 * j + 1 < n
    · have kl := kid_lt xs j n h
      have kg := kid_gt xs j n
      have kp := kid_par xs j n
      by_cases h3 : xs.getD (kid xs j n) 0 < xs.getD j 0
      · rw [downF_go _ _ _ h h3]
        have hj : j < xs.length := by omega
        have hq : kid xs j n < xs.length := by omega
        have kle := kid_le xs j n
        generalize kid xs j n = q at *
        refine ih q _ (by omega) (by rw [swp_len]; omega) ?_ ?_
        · intro i a b c
          rw [swp_getD _ _ _ _ hj hq, swp_getD _ _ _ _ hj hq]
          rw [if_neg c]
          by_cases e1 : (i - 1) / 2 = j
          · rw [if_pos e1]
            by_cases e2 : i = q
            · rw [if_pos e2]; omega
            · rw [if_neg e2, if_neg (by omega)]; exact kle i b a e1
          · rw [if_neg e1]
            rw [if_neg (by intro e; subst e; omega)]
            by_cases e3 : i = j
            · rw [if_pos e3]; subst e3; exact h2 a q (by omega) kl kp
            · rw [if_neg e3]; exact h1 i a b e1
        · intro h0 i a b c
          rw [swp_getD _ _ _ _ hj hq, swp_getD _ _ _ _ hj hq]
          rw [kp, if_neg (by omega), if_pos rfl, if_neg (by omega), if_neg (by omega)]
          have := h1 i a b (by omega)
          rw [c] at this; exact this
      · rw [downF_stop _ _ _ h h3]
        intro i a b
        by_cases e : (i - 1) / 2 = j
        · rw [e]; have := kid_le xs j n i b a e; omega
        · exact h1 i a b e
    · rw [downF_end _ _ _ h]
      intro i a b
      exact h1 i a b (by omega)
/-- What lies behind the first n stays. -/
theorem downF_far (n : Nat) : ∀ (k j : Nat) (xs : List Int), n - j ≤ k → n ≤ xs.length → ∀ i, n ≤ i → (downF xs j n).getD i 0 = xs.getD i 0 := by
  intro k
  induction k with
  | zero => intro j xs hk hn i hi; rw [downF_end _ _ _ (by omega)]
  | succ k ih =>
    intro j xs hk hn i hi
    by_cases h : 2 * j + 1 < n
    · have kl := kid_lt xs j n h
      have kg := kid_gt xs j n
      by_cases h3 : xs.getD (kid xs j n) 0 < xs.getD j 0
      · rw [downF_go _ _ _ h h3, ih _ _ (by omega) (by rw [swp_len]; omega) i hi, swp_getD _ _ _ _ (by omega) (by omega), if_neg (by omega), if_neg (by omega)]
      · rw [downF_stop _ _ _ h h3]
    · rw [downF_end _ _ _ h]
theorem upF_len (xs : List Int) (j : Nat) (h : j < xs.length) : (upF xs j).length = xs.length := (upF_perm j xs h).length_eq
theorem downF_len (xs : List Int) (n : Nat) (h : n ≤ xs.length) : (downF xs 0 n).length = xs.length := (downF_perm n n 0 xs (by omega) h).length_eq
theorem getD_app (xs ys : List Int) (i : Nat) (h : i < xs.length) : (xs ++ ys).getD i 0 = xs.getD i 0 := by
  simp [List.getD_eq_getElem?_getD, List.getElem?_append_left h]
/-- A number put at the end and brought up. -/
def pushF (xs : List Int) (n : Int) : List Int := upF (xs ++ [n]) xs.length
theorem pushF_perm (xs : List Int) (n : Int) : (pushF xs n).Perm (n :: xs) := by
  unfold pushF
  exact (upF_perm _ _ (by simp)).trans (by simpa using List.perm_append_comm (l₁ := xs) (l₂ := [n]))
theorem pushF_len (xs : List Int) (n : Int) : (pushF xs n).length = xs.length + 1 := by rw [(pushF_perm xs n).length_eq]; rfl
theorem pushF_heaped (xs : List Int) (n : Int) (h : Heaped xs xs.length) : Heaped (pushF xs n) (pushF xs n).length := by
  rw [pushF_len]
  have hl : (xs ++ [n]).length = xs.length + 1 := by simp
  have := upF_heaped xs.length (xs ++ [n]) (by simp) (fun i a b c => by
    rw [hl] at b
    have := h i a (by omega)
    rw [getD_app _ _ _ (by omega), getD_app _ _ _ (by omega)]; exact this) (fun h0 i a b c => by rw [hl] at b; omega)
  rw [hl] at this; exact this
/-- The least taken off: what is left. -/
def popF (xs : List Int) : List Int := (downF (swp xs 0 (xs.length - 1)) 0 (xs.length - 1)).take (xs.length - 1)
theorem getD_take (xs : List Int) (n i : Nat) (h : i < n) : (xs.take n).getD i 0 = xs.getD i 0 := by
  simp [List.getD_eq_getElem?_getD, List.getElem?_take, h]
theorem popF_len (xs : List Int) (h : xs ≠ []) : (popF xs).length = xs.length - 1 := by
  have := List.length_pos_iff.2 h
  unfold popF
  rw [List.length_take, downF_len _ _ (by rw [swp_len]; omega), swp_len]; omega
theorem popF_heaped (xs : List Int) (h : Heaped xs xs.length) (hn : xs ≠ []) : Heaped (popF xs) (popF xs).length := by
  have hp := List.length_pos_iff.2 hn
  rw [popF_len xs hn]
  have := downF_heaped (xs.length - 1) (xs.length - 1) 0 (swp xs 0 (xs.length - 1)) (by omega) (by rw [swp_len]; omega) (fun i a b c => by
    rw [swp_getD _ _ _ _ (by omega) (by omega), swp_getD _ _ _ _ (by omega) (by omega), if_neg (by omega), if_neg (by omega), if_neg (by omega), if_neg (by omega)]
    exact h i a (by omega)) (fun h0 => by omega)
  intro i a b
  unfold popF
  rw [getD_take _ _ _ (by omega), getD_take _ _ _ b]
  exact this i a b
theorem popF_perm (xs : List Int) (hn : xs ≠ []) : xs.Perm (xs.getD 0 0 :: popF xs) := by
  have hp := List.length_pos_iff.2 hn
  have hd := downF_perm (xs.length - 1) (xs.length - 1) 0 (swp xs 0 (xs.length - 1)) (by omega) (by rw [swp_len]; omega)
  have hs := swp_perm xs 0 (xs.length - 1) (by omega) (by omega)
  have hl : (downF (swp xs 0 (xs.length - 1)) 0 (xs.length - 1)).length = xs.length := by rw [hd.length_eq, swp_len]
  have hf := downF_far (xs.length - 1) (xs.length - 1) 0 (swp xs 0 (xs.length - 1)) (by omega) (by rw [swp_len]; omega) (xs.length - 1) (Nat.le_refl _)
  rw [swp_getD _ _ _ _ (by omega) (by omega), if_pos rfl] at hf
  unfold popF
  generalize downF (swp xs 0 (xs.length - 1)) 0 (xs.length - 1) = ys at *
  have hy : ys = ys.take (xs.length - 1) ++ [xs.getD 0 0] := by
    rw [← hf]
    conv => lhs; rw [← List.take_append_drop (xs.length - 1) ys]
    congr 1
    rw [List.drop_eq_getElem_cons (by omega), List.drop_of_length_le (by omega)]
    simp [List.getD_eq_getElem?_getD, List.getElem?_eq_getElem (show xs.length - 1 < ys.length by omega)]
  have h1 : xs.Perm ys := (hd.trans hs).symm
  refine h1.trans ?_
  conv => lhs; rw [hy]
  exact List.perm_append_comm
end Go.Proofs.Ytndmpdpmfieacaa
