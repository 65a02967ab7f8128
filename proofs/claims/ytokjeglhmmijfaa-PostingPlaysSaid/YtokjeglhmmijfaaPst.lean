/-
  Lists of ids as the reference makes them: chunks of sixteen, an id put into a block, an id taken out; no condition.
-/
import Derived.Test.YtokjeglhmmijfaaPss
namespace Go.Proofs.Ytokjeglhmmijfaa
open Go.RowKit Go.WideShapes Go.ChangeShapes
set_option linter.all false
def cki (l : List Int) (k : Nat) : List Int := (l.drop (16 * k)).take 16
def ckis (l : List Int) (m : Nat) : List (List Int) := (List.range m).map (cki l)
theorem ckis_succ (l : List Int) (m : Nat) : ckis l (m + 1) = ckis l m ++ [cki l m] := by simp [ckis, List.range_succ]
theorem ckis_cons (l : List Int) (m : Nat) : ckis l (m + 1) = l.take 16 :: ckis (l.drop 16) m := by
  simp only [ckis, List.range_succ_eq_map, List.map_cons, List.map_map]
  congr 1
  apply List.map_congr_left
  intro k _
  simp only [Function.comp, cki, List.drop_drop]
  congr 2
  omega
theorem ascI_mono : ∀ {l : List Int} {p q : Int}, ascI q l = true → p ≤ q → ascI p l = true
  | [], _, _, _, _ => rfl
  | x :: r, p, q, h, hpq => by
    simp only [ascI, Bool.and_eq_true, decide_eq_true_eq] at h ⊢
    exact ⟨by omega, h.2⟩
theorem ascI_app : ∀ (a b : List Int) (p : Int), a ≠ [] → ascI p (a ++ b) = (ascI p a && ascI (a.getD (a.length - 1) 0 + 1) b)
  | [], _, _, h => absurd rfl h
  | [x], b, p, _ => by simp [ascI]
  | x :: y :: r, b, p, _ => by
    have ih := ascI_app (y :: r) b (x + 1) (by simp)
    have e1 : (x :: y :: r).getD ((x :: y :: r).length - 1) 0 = (y :: r).getD ((y :: r).length - 1) 0 := by simp
    rw [List.cons_append, ascI, ih, e1, show ascI p (x :: y :: r) = (decide (p ≤ x ∧ x ≤ 1073741824) && ascI (x + 1) (y :: r)) from rfl, Bool.and_assoc]
theorem ascI_low {x : Int} {r : List Int} {p : Int} (hp : -1 ≤ p) : ascI (p + 1) (x :: r) = (ascI 0 (x :: r) && decide (p < x)) := by
  simp only [ascI]
  rw [Bool.eq_iff_iff]
  simp only [Bool.and_eq_true, decide_eq_true_eq]
  constructor
  · rintro ⟨⟨h1, h2⟩, h3⟩; exact ⟨⟨⟨by omega, h2⟩, h3⟩, by omega⟩
  · rintro ⟨⟨⟨h1, h2⟩, h3⟩, h4⟩; exact ⟨⟨by omega, h2⟩, h3⟩
theorem ascI_ge : ∀ {l : List Int} {p : Int}, ascI p l = true → ∀ k, k < l.length → p ≤ l.getD k 0
  | [], _, _, k, hk => by simp at hk
  | x :: r, p, h, k, hk => by
    simp only [ascI, Bool.and_eq_true, decide_eq_true_eq] at h
    cases k with
    | zero => rw [List.getD_cons_zero]; omega
    | succ k =>
      rw [List.getD_cons_succ]
      have := ascI_ge h.2 k (by simpa using hk)
      omega
theorem rl_ck : ∀ (m : Nat) (l : List Int) (p : Int), -1 ≤ p → l.length ≤ 16 * m → (m = 0 ∨ 16 * (m - 1) < l.length) → rlI p (ckis l m) = ascI (p + 1) l
  | 0, l, p, hp, h1, _ => by
    obtain rfl := List.eq_nil_of_length_eq_zero (by omega : l.length = 0)
    rfl
  | m + 1, l, p, hp, h1, h2 => by
    have hl : 0 < l.length := by omega
    rw [ckis_cons, rlI]
    obtain ⟨b, hb⟩ : ∃ b, b = l.take 16 := ⟨_, rfl⟩
    obtain ⟨r, hr⟩ : ∃ r, r = l.drop 16 := ⟨_, rfl⟩
    have hlb : b.length = min 16 l.length := by rw [hb, List.length_take]
    have hlr : r.length = l.length - 16 := by rw [hr, List.length_drop]
    have hbr : l = b ++ r := by rw [hb, hr, List.take_append_drop]
    rw [← hb, ← hr, hbr]
    have hbn : b ≠ [] := by intro h; rw [h] at hlb; simp at hlb; omega
    rw [ascI_app b r (p + 1) hbn, right_asc (by omega)]
    obtain ⟨x, c, hxc⟩ := List.exists_cons_of_ne_nil hbn
    have e0 : ascI (p + 1) b = (ascI 0 b && decide (p < b.getD 0 0)) := by
      rw [hxc, List.getD_cons_zero]; exact ascI_low hp
    rw [← e0]
    cases hab : ascI (p + 1) b with
    | false => rfl
    | true =>
      rw [Bool.true_and, Bool.true_and]
      have hz := ascI_ge hab (b.length - 1) (by omega)
      refine rl_ck m r _ (by omega) (by omega) ?_
      by_cases hm : m = 0
      · exact .inl hm
      · exact .inr (by omega)
theorem riB_asc (l : List Int) : riB l l.length = ascI 0 l := by
  cases h : riB l l.length with
  | true =>
    obtain ⟨l', rfl, ha⟩ := okI_all (riB_true h)
    have := ascI_cast l' 0
    rw [ha] at this
    exact this.symm
  | false =>
    obtain ⟨K, h1, h2, _⟩ := riB_false h
    cases ha : ascI 0 l with
    | false => rfl
    | true =>
      exfalso
      obtain ⟨l', rfl⟩ := ascI_nat l 0 (by omega) ha
      have hb : ascB 0 l' = true := by rw [← ascI_cast l' 0]; exact ha
      rw [List.length_map] at h1
      apply h2
      have e1 : ((l'.map Nat.cast : List Int)).getD K 0 = ((l'.getD K 0 : Nat) : Int) := nb_get h1
      have hg := asc_ge hb _ (getD_mem0 h1)
      refine ⟨by rw [e1]; omega, by rw [e1]; omega, fun hK => ?_⟩
      have e2 : ((l'.map Nat.cast : List Int)).getD (K - 1) 0 = ((l'.getD (K - 1) 0 : Nat) : Int) := nb_get (by omega)
      rw [e1, e2]
      have := asc_2 hb (show K - 1 < K by omega) h1
      omega
theorem ckis_nb (l : List Nat) (m : Nat) (hm : m = (l.length + 15) / 16) : ckis (nb l) m = (chunkL m l).map nb := by
  rw [chunk_upto m l hm]
  unfold ckis upto
  rw [List.map_map, List.map_map]
  apply List.map_congr_left
  intro k _
  simp only [Function.comp, cki, ck, id]
  unfold nb
  rw [← List.map_drop, ← List.map_take]
/-- Putting an id in, as far as the block was gone through. -/
def insTo (x : Nat) (p : List Nat) : List Nat := if lowI x p < p.length then insB x p else p
theorem low_snoc (x : Int) (y : Nat) : ∀ p : List Nat, lowI x (p ++ [y]) = if lowI x p < p.length then lowI x p else if (y : Int) < x then p.length + 1 else p.length
  | [] => by
    simp only [List.nil_append, lowI, List.length_nil]
    rfl
  | z :: r => by
    have ih := low_snoc x y r
    have hle := lowI_le x r
    rw [List.cons_append, lowI, lowI, ih]
    by_cases hz : (z : Int) < x
    · rw [if_pos hz, if_pos hz]
      simp only [List.length_cons]
      by_cases h : lowI x r < r.length
      · rw [if_pos h, if_pos (show lowI x r + 1 < r.length + 1 by omega)]
      · rw [if_neg h, if_neg (show ¬ lowI x r + 1 < r.length + 1 by omega)]
        by_cases hy : (y : Int) < x
        · rw [if_pos hy, if_pos hy]
        · rw [if_neg hy, if_neg hy]
    · rw [if_neg hz, if_neg hz, if_pos (by simp)]
theorem insTo_nil (x : Nat) : insTo x [] = [] := by simp [insTo]
theorem insTo_done {x y : Nat} {p : List Nat} (h : lowI x p < p.length) : insTo x (p ++ [y]) = insTo x p ++ [y] ∧ lowI x (p ++ [y]) < (p ++ [y]).length := by
  have e := low_snoc (x : Int) y p
  rw [if_pos h] at e
  have h2 : lowI x (p ++ [y]) < (p ++ [y]).length := by rw [e, List.length_append]; omega
  refine ⟨?_, h2⟩
  unfold insTo insB
  rw [if_pos h2, if_pos h, e, List.take_append_of_le_length (by omega), List.drop_append_of_le_length (by omega)]
  simp
theorem insTo_less {x y : Nat} {p : List Nat} (h : ¬ lowI x p < p.length) (hy : y < x) : insTo x (p ++ [y]) = insTo x p ++ [y] ∧ ¬ lowI x (p ++ [y]) < (p ++ [y]).length := by
  have e := low_snoc (x : Int) y p
  rw [if_neg h, if_pos (by omega)] at e
  have h2 : ¬ lowI x (p ++ [y]) < (p ++ [y]).length := by rw [e, List.length_append]; simp
  refine ⟨?_, h2⟩
  unfold insTo
  rw [if_neg h2, if_neg h]
theorem insTo_more {x y : Nat} {p : List Nat} (h : ¬ lowI x p < p.length) (hy : x < y) : insTo x (p ++ [y]) = insTo x p ++ [x] ++ [y] ∧ lowI x (p ++ [y]) < (p ++ [y]).length := by
  have e := low_snoc (x : Int) y p
  rw [if_neg h, if_neg (by omega)] at e
  have h2 : lowI x (p ++ [y]) < (p ++ [y]).length := by rw [e, List.length_append]; simp
  refine ⟨?_, h2⟩
  unfold insTo insB
  rw [if_pos h2, if_neg h, e]
  simp
theorem insTo_end {x : Nat} {p : List Nat} (h : lowI x p < p.length) : insTo x p = insB x p := by unfold insTo; rw [if_pos h]
theorem insTo_end2 {x : Nat} {p : List Nat} (h : ¬ lowI x p < p.length) : insTo x p ++ [x] = insB x p := by
  unfold insTo insB
  have := lowI_le x p
  rw [if_neg h, show lowI x p = p.length by omega]
  simp
theorem insTo_len (x : Nat) (p : List Nat) : (insTo x p).length ≤ p.length + 1 := by
  unfold insTo
  split
  · rw [insB_len]; omega
  · omega
/-- Taking an id out. -/
def outN (x : Int) (p : List Nat) : List Nat := p.filter fun y => !decide ((y : Int) = x)
theorem outN_snoc (x : Int) (p : List Nat) (y : Nat) : outN x (p ++ [y]) = if (y : Int) = x then outN x p else outN x p ++ [y] := by
  unfold outN
  rw [List.filter_append]
  by_cases h : (y : Int) = x
  · simp [h]
  · simp [h]
theorem outN_id {x : Int} {l : List Nat} (h : ∀ y ∈ l, ¬ (y : Int) = x) : outN x l = l := by
  unfold outN
  rw [List.filter_eq_self]
  intro y hy
  simp [h y hy]
theorem outN_del {x : Nat} {l : List Nat} (ha : ascB 0 l = true) (hm : x ∈ l) : outN x l = delB x l ∧ (delB x l).length + 1 = l.length := by
  have e := del_split ha hm
  have ha' := ha
  rw [e] at ha'
  obtain ⟨h1, h2, h3⟩ := asc_app.1 ha'
  have h4 : ∀ y ∈ l.take (lowI x l), ¬ (y : Int) = (x : Int) := fun y hy => by have := h3 y hy x (by simp); omega
  have h5 : ∀ y ∈ l.drop (lowI x l + 1), ¬ (y : Int) = (x : Int) := fun y hy => by
    have := asc_ge (ascB_cons.1 h2).2.2 y hy
    omega
  constructor
  · have f1 := outN_id h4
    have f2 := outN_id h5
    unfold outN at f1 f2
    unfold delB outN
    conv => lhs; rw [e]
    rw [List.filter_append, List.filter_cons, f1, f2]
    simp
  · unfold delB
    have := congrArg List.length e
    simp only [List.length_append, List.length_cons] at this
    rw [List.length_append]
    omega
end Go.Proofs.Ytokjeglhmmijfaa
