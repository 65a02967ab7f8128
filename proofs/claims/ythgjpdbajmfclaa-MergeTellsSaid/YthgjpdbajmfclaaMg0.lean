/-
  Heaps of lists by their first numbers: pure facts.
-/
import Derived.Lib.Hide
import Derived.Laws.IdiomCopy
namespace Go.Proofs.Ythgjpdbajmfclaa
set_option linter.all false
/-- A list that came in: where it lies, its length and room, its numbers. -/
structure El where
  ad : Addr
  n : Nat
  c : Nat
  l : List Int
def dE : El := ⟨⟨0, 0, none⟩, 0, 0, []⟩
def El.k (e : El) : Int := e.l.getD 0 0
/-- The first number of the list at place i. -/
def kk (xs : List El) (i : Nat) : Int := (xs.getD i dE).k
def swp (xs : List El) (i j : Nat) : List El := (xs.set i (xs.getD j dE)).set j (xs.getD i dE)
theorem swp_len (xs : List El) (i j : Nat) : (swp xs i j).length = xs.length := by simp [swp]
/-- What up makes of a row. -/
def upF (xs : List El) (j : Nat) : List El :=
  if h : 0 < j then
    if kk xs j < kk xs ((j - 1) / 2) then upF (swp xs ((j - 1) / 2) j) ((j - 1) / 2) else xs
  else xs
termination_by j
decreasing_by omega
theorem upF_zero (xs : List El) : upF xs 0 = xs := by rw [upF]; simp
theorem upF_stop (xs : List El) (m : Nat) (h : ¬ kk xs (m + 1) < kk xs (m / 2)) : upF xs (m + 1) = xs := by rw [upF]; simp only [Nat.add_sub_cancel]; rw [dif_pos (by omega), if_neg h]
theorem upF_go (xs : List El) (m : Nat) (h : kk xs (m + 1) < kk xs (m / 2)) : upF xs (m + 1) = upF (swp xs (m / 2) (m + 1)) (m / 2) := by rw [upF]; simp only [Nat.add_sub_cancel]; rw [dif_pos (by omega), if_pos h]
/-- The smaller child of i among the first n. -/
def kid (xs : List El) (i n : Nat) : Nat := if 2 * i + 2 < n ∧ kk xs (2 * i + 2) < kk xs (2 * i + 1) then 2 * i + 2 else 2 * i + 1
theorem kid_gt (xs : List El) (i n : Nat) : i < kid xs i n := by unfold kid; split <;> omega
theorem kid_lt (xs : List El) (i n : Nat) (h : 2 * i + 1 < n) : kid xs i n < n := by unfold kid; split <;> omega
/-- What down makes of a row. -/
def downF (xs : List El) (i n : Nat) : List El :=
  if h : 2 * i + 1 < n then
    if kk xs (kid xs i n) < kk xs i then downF (swp xs i (kid xs i n)) (kid xs i n) n else xs
  else xs
termination_by n - i
decreasing_by have := kid_gt xs i n; omega
theorem downF_end (xs : List El) (i n : Nat) (h : ¬ 2 * i + 1 < n) : downF xs i n = xs := by rw [downF]; rw [dif_neg h]
theorem downF_stop (xs : List El) (i n : Nat) (h : 2 * i + 1 < n) (h2 : ¬ kk xs (kid xs i n) < kk xs i) : downF xs i n = xs := by rw [downF]; rw [dif_pos h, if_neg h2]
theorem downF_go (xs : List El) (i n : Nat) (h : 2 * i + 1 < n) (h2 : kk xs (kid xs i n) < kk xs i) : downF xs i n = downF (swp xs i (kid xs i n)) (kid xs i n) n := by rw [downF]; rw [dif_pos h, if_pos h2]
theorem swp_perm (xs : List El) (i j : Nat) (hi : i < xs.length) (hj : j < xs.length) : (swp xs i j).Perm xs := by
  unfold swp
  rw [List.getD_eq_getElem?_getD, List.getD_eq_getElem?_getD, List.getElem?_eq_getElem hi, List.getElem?_eq_getElem hj]
  exact List.set_set_perm hi hj
theorem upF_perm : ∀ (j : Nat) (xs : List El), j < xs.length → (upF xs j).Perm xs := by
  intro j
  induction j using Nat.strongRecOn with
  | ind j ih =>
    intro xs h
    cases j with
    | zero => rw [upF_zero]
    | succ m =>
      by_cases hb : kk xs (m + 1) < kk xs (m / 2)
      · rw [upF_go _ _ hb]
        exact (ih (m / 2) (by omega) _ (by rw [swp_len]; omega)).trans (swp_perm _ _ _ (by omega) h)
      · rw [upF_stop _ _ hb]
theorem downF_perm (n : Nat) : ∀ (k i : Nat) (xs : List El), n - i ≤ k → n ≤ xs.length → (downF xs i n).Perm xs := by
  intro k
  induction k with
  | zero => intro i xs h1 h2; rw [downF_end _ _ _ (by omega)]
  | succ k ih =>
    intro i xs h1 h2
    by_cases h : 2 * i + 1 < n
    · have a := kid_lt xs i n h
      have b := kid_gt xs i n
      by_cases h3 : kk xs (kid xs i n) < kk xs i
      · rw [downF_go _ _ _ h h3]
        exact (ih _ _ (by omega) (by rw [swp_len]; omega)).trans (swp_perm _ _ _ (by omega) (by omega))
      · rw [downF_stop _ _ _ h h3]
    · rw [downF_end _ _ _ h]
/-- The first n of xs are a heap. -/
def Heaped (xs : List El) (n : Nat) : Prop := ∀ i, 0 < i → i < n → kk xs ((i - 1) / 2) ≤ kk xs i
theorem swp_getE (xs : List El) (i j k : Nat) (hi : i < xs.length) (hj : j < xs.length) :
    (swp xs i j).getD k dE = if k = j then xs.getD i dE else if k = i then xs.getD j dE else xs.getD k dE := by
  unfold swp
  simp only [List.getD_eq_getElem?_getD, List.getElem?_set, List.length_set]
  by_cases h1 : k = j
  · subst h1; simp [hj]
  · by_cases h2 : k = i
    · subst h2; simp [h1, Ne.symm h1, hi]
    · simp [h1, h2, Ne.symm h1, Ne.symm h2]
theorem swp_getD (xs : List El) (i j k : Nat) (hi : i < xs.length) (hj : j < xs.length) :
    kk (swp xs i j) k = if k = j then kk xs i else if k = i then kk xs j else kk xs k := by
  unfold kk
  rw [swp_getE xs i j k hi hj]
  split
  · rfl
  · split <;> rfl
theorem Heaped.least {xs : List El} {n : Nat} (h : Heaped xs n) : ∀ i, i < n → kk xs 0 ≤ kk xs i := by
  intro i
  induction i using Nat.strongRecOn with
  | ind i ih =>
    intro hi
    by_cases h0 : i = 0
    · subst h0; exact Int.le_refl _
    · exact Int.le_trans (ih ((i - 1) / 2) (by omega) (by omega)) (h i (by omega) hi)
/-- A heap but for the place j, which may be too small. -/
theorem upF_heaped : ∀ (j : Nat) (xs : List El), j < xs.length →
    (∀ i, 0 < i → i < xs.length → i ≠ j → kk xs ((i - 1) / 2) ≤ kk xs i) →
    (0 < j → ∀ i, 0 < i → i < xs.length → (i - 1) / 2 = j → kk xs ((j - 1) / 2) ≤ kk xs i) →
    Heaped (upF xs j) xs.length := by
  intro j
  induction j using Nat.strongRecOn with
  | ind j ih =>
    intro xs hj h1 h2
    cases j with
    | zero => rw [upF_zero]; intro i a b; exact h1 i a b (by omega)
    | succ m =>
      by_cases hb : kk xs (m + 1) < kk xs (m / 2)
      · rw [upF_go _ _ hb]
        have hm : m / 2 < xs.length := by omega
        have hl := swp_len xs (m / 2) (m + 1)
        rw [← hl]
        refine ih (m / 2) (by omega) _ (by rw [hl]; omega) ?_ ?_
        · intro i a b c
          rw [hl] at b
          rw [swp_getD _ _ _ _ hm hj, swp_getD _ _ _ _ hm hj]
          by_cases e1 : i = m + 1
          · subst e1
            simp only [Nat.add_sub_cancel]
            rw [if_neg (by omega), if_pos trivial, if_pos trivial]; omega
          · rw [if_neg e1, if_neg c]
            have hi := h1 i a b e1
            by_cases e2 : (i - 1) / 2 = m + 1
            · rw [if_pos e2]
              have := h2 (by omega) i a b e2
              simpa using this
            · rw [if_neg e2]
              by_cases e3 : (i - 1) / 2 = m / 2
              · rw [if_pos e3]; rw [e3] at hi; omega
              · rw [if_neg e3]; exact hi
        · intro h0 i a b c
          rw [hl] at b
          rw [swp_getD _ _ _ _ hm hj, swp_getD _ _ _ _ hm hj]
          rw [if_neg (by omega), if_neg (by omega)]
          have hp := h1 (m / 2) h0 hm (by omega)
          by_cases e1 : i = m + 1
          · rw [if_pos e1]; exact hp
          · rw [if_neg e1]
            by_cases e2 : i = m / 2
            · omega
            · rw [if_neg e2]
              have := h1 i a b e1
              rw [c] at this
              omega
      · rw [upF_stop _ _ hb]
        intro i a b
        by_cases e : i = m + 1
        · subst e; simp only [Nat.add_sub_cancel]; omega
        · exact h1 i a b e
theorem kid_le (xs : List El) (i n k : Nat) (hk : k < n) (h0 : 0 < k) (hp : (k - 1) / 2 = i) : kk xs (kid xs i n) ≤ kk xs k := by
  unfold kid
  have h : k = 2 * i + 1 ∨ k = 2 * i + 2 := by omega
  split
  · next h1 => rcases h with rfl | rfl <;> omega
  · next h1 =>
    rcases h with rfl | rfl
    · omega
    · have : ¬ (kk xs (2 * i + 2) < kk xs (2 * i + 1)) := fun e => h1 ⟨hk, e⟩
      omega
theorem kid_par (xs : List El) (i n : Nat) : (kid xs i n - 1) / 2 = i := by unfold kid; split <;> omega
/-- A heap but for the place j, which may be too great: among the first n. -/
theorem downF_heaped (n : Nat) : ∀ (k j : Nat) (xs : List El), n - j ≤ k → n ≤ xs.length →
    (∀ i, 0 < i → i < n → (i - 1) / 2 ≠ j → kk xs ((i - 1) / 2) ≤ kk xs i) →
    (0 < j → ∀ i, 0 < i → i < n → (i - 1) / 2 = j → kk xs ((j - 1) / 2) ≤ kk xs i) →
    Heaped (downF xs j n) n := by
  intro k
  induction k with
  | zero => intro j xs hk hn h1 h2; rw [downF_end _ _ _ (by omega)]; intro i a b; exact h1 i a b (by omega)
  | succ k ih =>
    intro j xs hk hn h1 h2
    by_cases h : 2 * j + 1 < n
    · have kl := kid_lt xs j n h
      have kg := kid_gt xs j n
      have kp := kid_par xs j n
      by_cases h3 : kk xs (kid xs j n) < kk xs j
      · rw [downF_go _ _ _ h h3]
        have hj : j < xs.length := by omega
        have hq : kid xs j n < xs.length := by omega
        have kle := kid_le xs j n
        generalize kid xs j n = q at *
        refine ih q _ (by omega) (by rw [swp_len]; omega) ?_ ?_
        · intro i a b c
          rw [swp_getD _ _ _ _ hj hq, swp_getD _ _ _ _ hj hq]
          rw [if_neg c]
          by_cases e1 : (i - 1) / 2 = j
          · rw [if_pos e1]
            by_cases e2 : i = q
            · rw [if_pos e2]; omega
            · rw [if_neg e2, if_neg (by omega)]; exact kle i b a e1
          · rw [if_neg e1]
            rw [if_neg (by intro e; subst e; omega)]
            by_cases e3 : i = j
            · rw [if_pos e3]; subst e3; exact h2 a q (by omega) kl kp
            · rw [if_neg e3]; exact h1 i a b e1
        · intro h0 i a b c
          rw [swp_getD _ _ _ _ hj hq, swp_getD _ _ _ _ hj hq]
          rw [kp, if_neg (by omega), if_pos rfl, if_neg (by omega), if_neg (by omega)]
          have := h1 i a b (by omega)
          rw [c] at this; exact this
      · rw [downF_stop _ _ _ h h3]
        intro i a b
        by_cases e : (i - 1) / 2 = j
        · rw [e]; have := kid_le xs j n i b a e; omega
        · exact h1 i a b e
    · rw [downF_end _ _ _ h]
      intro i a b
      exact h1 i a b (by omega)
/-- What lies behind the first n stays. -/
theorem downF_far (n : Nat) : ∀ (k j : Nat) (xs : List El), n - j ≤ k → n ≤ xs.length → ∀ i, n ≤ i → (downF xs j n).getD i dE = xs.getD i dE := by
  intro k
  induction k with
  | zero => intro j xs hk hn i hi; rw [downF_end _ _ _ (by omega)]
  | succ k ih =>
    intro j xs hk hn i hi
    by_cases h : 2 * j + 1 < n
    · have kl := kid_lt xs j n h
      have kg := kid_gt xs j n
      by_cases h3 : kk xs (kid xs j n) < kk xs j
      · rw [downF_go _ _ _ h h3, ih _ _ (by omega) (by rw [swp_len]; omega) i hi, swp_getE _ _ _ _ (by omega) (by omega), if_neg (by omega), if_neg (by omega)]
      · rw [downF_stop _ _ _ h h3]
    · rw [downF_end _ _ _ h]
theorem upF_len (xs : List El) (j : Nat) (h : j < xs.length) : (upF xs j).length = xs.length := (upF_perm j xs h).length_eq
theorem downF_len (xs : List El) (n : Nat) (h : n ≤ xs.length) : (downF xs 0 n).length = xs.length := (downF_perm n n 0 xs (by omega) h).length_eq
/-- The least taken off: what is left. -/
def popF (xs : List El) : List El := (downF (swp xs 0 (xs.length - 1)) 0 (xs.length - 1)).take (xs.length - 1)
theorem popF_len (xs : List El) (h : xs ≠ []) : (popF xs).length = xs.length - 1 := by
  have := List.length_pos_iff.2 h
  unfold popF
  rw [List.length_take, downF_len _ _ (by rw [swp_len]; omega), swp_len]; omega
theorem kk_take (xs : List El) (n i : Nat) (h : i < n) : kk (xs.take n) i = kk xs i := by
  simp [kk, List.getD_eq_getElem?_getD, List.getElem?_take, h]
theorem popF_heaped (xs : List El) (h : Heaped xs xs.length) (hn : xs ≠ []) : Heaped (popF xs) (popF xs).length := by
  have hp := List.length_pos_iff.2 hn
  rw [popF_len xs hn]
  have := downF_heaped (xs.length - 1) (xs.length - 1) 0 (swp xs 0 (xs.length - 1)) (by omega) (by rw [swp_len]; omega) (fun i a b c => by
    rw [swp_getD _ _ _ _ (by omega) (by omega), swp_getD _ _ _ _ (by omega) (by omega), if_neg (by omega), if_neg (by omega), if_neg (by omega), if_neg (by omega)]
    exact h i a (by omega)) (fun h0 => by omega)
  intro i a b
  unfold popF
  rw [kk_take _ _ _ (by omega), kk_take _ _ _ b]
  exact this i a b
theorem popF_perm (xs : List El) (hn : xs ≠ []) : xs.Perm (xs.getD 0 dE :: popF xs) := by
  have hp := List.length_pos_iff.2 hn
  have hd := downF_perm (xs.length - 1) (xs.length - 1) 0 (swp xs 0 (xs.length - 1)) (by omega) (by rw [swp_len]; omega)
  have hs := swp_perm xs 0 (xs.length - 1) (by omega) (by omega)
  have hl : (downF (swp xs 0 (xs.length - 1)) 0 (xs.length - 1)).length = xs.length := by rw [hd.length_eq, swp_len]
  have hf := downF_far (xs.length - 1) (xs.length - 1) 0 (swp xs 0 (xs.length - 1)) (by omega) (by rw [swp_len]; omega) (xs.length - 1) (Nat.le_refl _)
  rw [swp_getE _ _ _ _ (by omega) (by omega), if_pos rfl] at hf
  unfold popF
  generalize downF (swp xs 0 (xs.length - 1)) 0 (xs.length - 1) = ys at *
  have hy : ys = ys.take (xs.length - 1) ++ [xs.getD 0 dE] := by
    rw [← hf]
    conv => lhs; rw [← List.take_append_drop (xs.length - 1) ys]
    congr 1
    rw [List.drop_eq_getElem_cons (by omega), List.drop_of_length_le (by omega)]
    simp [List.getD_eq_getElem?_getD, List.getElem?_eq_getElem (show xs.length - 1 < ys.length by omega)]
  have h1 : xs.Perm ys := (hd.trans hs).symm
  refine h1.trans ?_
  conv => lhs; rw [hy]
  exact List.perm_append_comm
end Go.Proofs.Ythgjpdbajmfclaa
