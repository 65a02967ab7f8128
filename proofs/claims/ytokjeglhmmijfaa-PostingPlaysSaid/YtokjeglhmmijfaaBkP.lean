/-
  Blocks of ids as lists: numbers by sevens of bits, reading leniently and strictly; plain mathematics, no condition.
-/
import Derived.Below
namespace Go.Proofs.Ytokjeglhmmijfaa
set_option linter.all false
/-- A number's bytes. -/
def numL (n : Nat) : List Nat := if n < 128 then [n] else (n % 128 + 128) :: numL (n / 128)
termination_by n
decreasing_by omega
theorem numL_small {n : Nat} (h : n < 128) : numL n = [n] := by rw [numL, if_pos h]
theorem numL_big {n : Nat} (h : ¬ n < 128) : numL n = (n % 128 + 128) :: numL (n / 128) := by rw [numL, if_neg h]
theorem numL_ne (n : Nat) : 0 < (numL n).length := by rw [numL]; split <;> simp
theorem numL_byte : ∀ (m n : Nat), n ≤ m → ∀ b ∈ numL n, b < 256 := by
  intro m
  induction m with
  | zero => intro n hn b hb; rw [numL_small (by omega)] at hb; simp at hb; omega
  | succ m ih =>
    intro n hn b hb
    by_cases h : n < 128
    · rw [numL_small h] at hb; simp at hb; omega
    · rw [numL_big h] at hb
      rcases List.mem_cons.1 hb with hb | hb
      · omega
      · exact ih (n / 128) (by omega) b hb
/-- The bytes of ids from p on. -/
def encGo (p : Nat) : List Nat → List Nat
  | [] => []
  | x :: r => numL (x - p) ++ encGo (x + 1) r
/-- Do ids rise from p on, none too great? -/
def ascB (p : Nat) : List Nat → Bool
  | [] => true
  | x :: r => decide (p ≤ x ∧ x ≤ 1073741824) && ascB (x + 1) r
def rightN (l : List Nat) : Bool := decide (1 ≤ l.length ∧ l.length ≤ 16) && ascB 0 l
theorem ascB_cons {p x : Nat} {r : List Nat} : ascB p (x :: r) = true ↔ p ≤ x ∧ x ≤ 1073741824 ∧ ascB (x + 1) r = true := by
  simp [ascB, and_assoc]
theorem encGo_byte : ∀ (l : List Nat) (p : Nat), ∀ b ∈ encGo p l, b < 256
  | [], _, b, hb => by simp [encGo] at hb
  | x :: r, p, b, hb => by
    rw [encGo] at hb
    rcases List.mem_append.1 hb with hb | hb
    · exact numL_byte _ _ (Nat.le_refl _) b hb
    · exact encGo_byte r (x + 1) b hb
/-- The number that bytes begin with, leniently: and of how many bytes (none: none). -/
def numP : List Nat → Nat → Nat → Nat × Nat
  | [], _, _ => (0, 0)
  | c :: r, i, a => if 5 ≤ i then (0, 0) else if c < 128 then (a + c % 128 * 128 ^ i, i + 1) else numP r (i + 1) (a + c % 128 * 128 ^ i)
theorem numP_le : ∀ (b : List Nat) (i a : Nat), (numP b i a).2 ≤ i + b.length
  | [], _, _ => by simp [numP]
  | c :: r, i, a => by
    rw [numP]
    split
    · simp
    · split
      · simp <;> omega
      · have := numP_le r (i + 1) (a + c % 128 * 128 ^ i); simp; omega
theorem numP_bd : ∀ (b : List Nat) (i a : Nat), a < 128 ^ i → i ≤ 5 → (numP b i a).1 < 128 ^ 5 ∧ (numP b i a).2 ≤ 5
  | [], _, _, _, _ => by simp [numP]
  | c :: r, i, a, ha, hi => by
    have hm : c % 128 < 128 := Nat.mod_lt _ (by omega)
    have h1 : a + c % 128 * 128 ^ i < 128 ^ (i + 1) := by
      have : c % 128 * 128 ^ i ≤ 127 * 128 ^ i := Nat.mul_le_mul_right _ (by omega)
      rw [Nat.pow_succ]; omega
    rw [numP]
    split
    · simp
    · have hp : 128 ^ (i + 1) ≤ 128 ^ 5 := Nat.pow_le_pow_right (by omega) (by omega)
      split
      · exact ⟨by show a + c % 128 * 128 ^ i < _; omega, by show i + 1 ≤ 5; omega⟩
      · exact numP_bd r (i + 1) _ h1 (by omega)
theorem numP_numL : ∀ (m n i a : Nat) (t : List Nat), n ≤ m → i < 5 → n < 128 ^ (5 - i) → numP (numL n ++ t) i a = (a + n * 128 ^ i, i + (numL n).length) := by
  intro m
  induction m with
  | zero =>
    intro n i a t hn hi hb
    rw [numL_small (by omega)]
    simp only [List.cons_append, numP, if_neg (show ¬ 5 ≤ i by omega), if_pos (show n < 128 by omega), Nat.mod_eq_of_lt (show n < 128 by omega)]
    rfl
  | succ m ih =>
    intro n i a t hn hi hb
    by_cases h : n < 128
    · rw [numL_small h]
      simp only [List.cons_append, numP, if_neg (show ¬ 5 ≤ i by omega), if_pos h, Nat.mod_eq_of_lt h]
      rfl
    · rw [numL_big h]
      have hi2 : i + 1 < 5 := by
        rcases Nat.lt_or_ge (i + 1) 5 with h' | h'
        · exact h'
        · obtain rfl : i = 4 := by omega
          simp at hb; omega
      have hb2 : n / 128 < 128 ^ (5 - (i + 1)) := by
        have e : 128 ^ (5 - i) = 128 ^ (5 - (i + 1)) * 128 := by rw [← Nat.pow_succ]; congr 1; omega
        rw [e] at hb
        exact Nat.div_lt_of_lt_mul (by rw [Nat.mul_comm]; exact hb)
      simp only [List.cons_append, numP, if_neg (show ¬ 5 ≤ i by omega), if_neg (show ¬ n % 128 + 128 < 128 by omega)]
      rw [ih (n / 128) (i + 1) _ t (by omega) hi2 hb2]
      have e1 : (n % 128 + 128) % 128 = n % 128 := by omega
      rw [e1, Nat.pow_succ]
      simp only [List.length_cons, Prod.mk.injEq]
      refine ⟨?_, by omega⟩
      have := Nat.div_add_mod n 128
      have e2 : n * 128 ^ i = (n % 128) * 128 ^ i + n / 128 * (128 ^ i * 128) := by
        conv => lhs; rw [← this]
        rw [Nat.add_mul, Nat.mul_comm 128 (n / 128), Nat.mul_assoc, Nat.mul_comm 128 (128 ^ i)]; omega
      omega
/-- Reading leniently. -/
def readQ (rest : List Nat) (p : Nat) (acc : List Nat) : Option (List Nat) :=
  if h0 : rest = [] then some acc
  else if h : (numP rest 0 0).2 = 0 ∨ acc.length = 16 then none
  else readQ (rest.drop (numP rest 0 0).2) (p + (numP rest 0 0).1 + 1) (acc ++ [p + (numP rest 0 0).1])
termination_by rest.length
decreasing_by
  have : 0 < rest.length := by cases rest; exact absurd rfl h0; simp
  rw [List.length_drop]; omega
theorem readQ_nil (p : Nat) (acc : List Nat) : readQ [] p acc = some acc := by rw [readQ]; simp
theorem readQ_bad {rest : List Nat} {p : Nat} {acc : List Nat} (h0 : rest ≠ []) (h : (numP rest 0 0).2 = 0 ∨ acc.length = 16) : readQ rest p acc = none := by rw [readQ, dif_neg h0, dif_pos h]
theorem readQ_step {rest : List Nat} {p : Nat} {acc : List Nat} (h0 : rest ≠ []) (h : ¬ ((numP rest 0 0).2 = 0 ∨ acc.length = 16)) : readQ rest p acc = readQ (rest.drop (numP rest 0 0).2) (p + (numP rest 0 0).1 + 1) (acc ++ [p + (numP rest 0 0).1]) := by rw [readQ, dif_neg h0, dif_neg h]
theorem read_enc : ∀ (l : List Nat) (p : Nat) (acc : List Nat), ascB p l = true → acc.length + l.length ≤ 16 → readQ (encGo p l) p acc = some (acc ++ l)
  | [], p, acc, _, _ => by rw [encGo, readQ_nil, List.append_nil]
  | x :: r, p, acc, ha, hl => by
    obtain ⟨h1, h2, h3⟩ := ascB_cons.1 ha
    simp only [List.length_cons] at hl
    have hne := numL_ne (x - p)
    have e : numP (numL (x - p) ++ encGo (x + 1) r) 0 0 = (x - p, (numL (x - p)).length) := by
      rw [numP_numL (x - p) (x - p) 0 0 _ (Nat.le_refl _) (by omega) (by show x - p < 34359738368; omega)]
      simp
    rw [encGo, readQ_step (by intro e'; rw [List.append_eq_nil_iff] at e'; rw [e'.1] at hne; simp at hne) (by rw [e]; simp only; omega), e]
    simp only [List.drop_left]
    rw [show p + (x - p) = x by omega, read_enc r (x + 1) (acc ++ [x]) h3 (by simp; omega)]
    simp
theorem readQ_len : ∀ (m : Nat) (rest : List Nat) (p : Nat) (acc l : List Nat), rest.length ≤ m → acc.length ≤ 16 → readQ rest p acc = some l → l.length ≤ 16 := by
  intro m
  induction m with
  | zero => intro rest p acc l hm ha h; rw [List.eq_nil_of_length_eq_zero (by omega : rest.length = 0), readQ_nil] at h; injection h with h; rw [← h]; exact ha
  | succ m ih =>
    intro rest p acc l hm ha h
    by_cases h0 : rest = []
    · rw [h0, readQ_nil] at h; injection h with h; rw [← h]; exact ha
    · by_cases hb : (numP rest 0 0).2 = 0 ∨ acc.length = 16
      · rw [readQ_bad h0 hb] at h; cases h
      · rw [readQ_step h0 hb] at h
        exact ih _ _ _ _ (by rw [List.length_drop]; omega) (by simp; omega) h
/-- What Decode tells. -/
def decP (bs : List Nat) : Option (List Nat) := match readQ bs 0 [] with
  | none => none
  | some l => if rightN l = true ∧ encGo 0 l = bs then some l else none
theorem decP_iff (bs l : List Nat) : decP bs = some l ↔ rightN l = true ∧ encGo 0 l = bs := by
  unfold decP
  constructor
  · intro h
    split at h
    · cases h
    · split at h
      · injection h with h; subst h; assumption
      · cases h
  · rintro ⟨h1, h2⟩
    have h1' := h1
    unfold rightN at h1'
    rw [Bool.and_eq_true, decide_eq_true_eq] at h1'
    have := read_enc l 0 [] h1'.2 (by simp; omega)
    rw [h2, List.nil_append] at this
    rw [this]
    exact if_pos ⟨h1, h2⟩
/-- The number that bytes begin with, strictly. -/
def numR : List Nat → Nat → Nat → Option (Nat × Nat)
  | [], _, _ => none
  | c :: r, i, a => if 4 < i then none else if c < 128 then (if c = 0 ∧ 0 < i then none else some (a + c % 128 * 128 ^ i, i + 1)) else numR r (i + 1) (a + c % 128 * 128 ^ i)
theorem numR_numL : ∀ (m n i a : Nat) (t : List Nat), n ≤ m → i < 5 → n < 128 ^ (5 - i) → (0 < i → 0 < n) → numR (numL n ++ t) i a = some (a + n * 128 ^ i, i + (numL n).length) := by
  intro m
  induction m with
  | zero =>
    intro n i a t hn hi hb h0
    rw [numL_small (by omega)]
    simp only [List.cons_append, numR, if_neg (show ¬ 4 < i by omega), if_pos (show n < 128 by omega), Nat.mod_eq_of_lt (show n < 128 by omega), if_neg (show ¬ (n = 0 ∧ 0 < i) by omega)]
    rfl
  | succ m ih =>
    intro n i a t hn hi hb h0
    by_cases h : n < 128
    · rw [numL_small h]
      simp only [List.cons_append, numR, if_neg (show ¬ 4 < i by omega), if_pos h, Nat.mod_eq_of_lt h, if_neg (show ¬ (n = 0 ∧ 0 < i) by omega)]
      rfl
    · rw [numL_big h]
      have hi2 : i + 1 < 5 := by
        rcases Nat.lt_or_ge (i + 1) 5 with h' | h'
        · exact h'
        · obtain rfl : i = 4 := by omega
          simp at hb; omega
      have hb2 : n / 128 < 128 ^ (5 - (i + 1)) := by
        have e : 128 ^ (5 - i) = 128 ^ (5 - (i + 1)) * 128 := by rw [← Nat.pow_succ]; congr 1; omega
        rw [e] at hb
        exact Nat.div_lt_of_lt_mul (by rw [Nat.mul_comm]; exact hb)
      simp only [List.cons_append, numR, if_neg (show ¬ 4 < i by omega), if_neg (show ¬ n % 128 + 128 < 128 by omega)]
      rw [ih (n / 128) (i + 1) _ t (by omega) hi2 hb2 (by omega)]
      have e1 : (n % 128 + 128) % 128 = n % 128 := by omega
      rw [e1, Nat.pow_succ]
      simp only [List.length_cons, Option.some.injEq, Prod.mk.injEq]
      refine ⟨?_, by omega⟩
      have := Nat.div_add_mod n 128
      have e2 : n * 128 ^ i = (n % 128) * 128 ^ i + n / 128 * (128 ^ i * 128) := by
        conv => lhs; rw [← this]
        rw [Nat.add_mul, Nat.mul_comm 128 (n / 128), Nat.mul_assoc, Nat.mul_comm 128 (128 ^ i)]; omega
      omega
theorem numR_inv : ∀ (b : List Nat) (i a m s : Nat), (∀ c ∈ b, c < 256) → numR b i a = some (m, s) → ∃ n, m = a + n * 128 ^ i ∧ s = i + (numL n).length ∧ b = numL n ++ b.drop (s - i) ∧ (0 < i → 0 < n)
  | [], _, _, _, _, _, h => by simp [numR] at h
  | c :: r, i, a, m, s, hb, h => by
    have hc := hb c List.mem_cons_self
    rw [numR] at h
    split at h
    · cases h
    · split at h
      · rename_i h1 h2
        split at h
        · cases h
        · rename_i h3
          simp only [Option.some.injEq, Prod.mk.injEq] at h
          obtain ⟨rfl, rfl⟩ := h
          exact ⟨c, by rw [Nat.mod_eq_of_lt h2], by rw [numL_small h2]; rfl, by rw [numL_small h2, show i + 1 - i = 1 by omega]; rfl, by omega⟩
      · rename_i h1 h2
        obtain ⟨n, e1, e2, e3, e4⟩ := numR_inv r (i + 1) _ m s (fun c' hc' => hb c' (List.mem_cons_of_mem _ hc')) h
        have hn : 0 < n := e4 (by omega)
        have q1 : (128 * n + c % 128) / 128 = n := by omega
        have q2 : (128 * n + c % 128) % 128 + 128 = c := by omega
        have q3 : numL (128 * n + c % 128) = c :: numL n := by rw [numL_big (by omega), q1, q2]
        refine ⟨128 * n + c % 128, ?_, by rw [q3, e2]; simp; omega, ?_, by omega⟩
        · rw [e1, Nat.pow_succ, Nat.add_mul, Nat.mul_comm 128 n, Nat.mul_assoc n 128, Nat.mul_comm 128 (128 ^ i)]; omega
        · have q4 : s - i = (s - (i + 1)) + 1 := by have := numL_ne n; omega
          rw [q3, q4, List.drop_succ_cons, List.cons_append, ← e3]
/-- Reading strictly. -/
def readR (rest : List Nat) (p : Nat) (acc : List Nat) : Option (List Nat) :=
  if h0 : rest = [] then some acc
  else match numR rest 0 0 with
  | none => none
  | some q => if h : p + q.1 > 1073741824 ∨ acc.length + 1 > 16 ∨ q.2 = 0 then none else readR (rest.drop q.2) (p + q.1 + 1) (acc ++ [p + q.1])
termination_by rest.length
decreasing_by
  have : 0 < rest.length := by cases rest; exact absurd rfl h0; simp
  rw [List.length_drop]; omega
theorem readR_nil (p : Nat) (acc : List Nat) : readR [] p acc = some acc := by rw [readR]; simp
theorem readR_none {rest : List Nat} {p : Nat} {acc : List Nat} (h0 : rest ≠ []) (h : numR rest 0 0 = none) : readR rest p acc = none := by rw [readR, dif_neg h0, h]
theorem readR_bad {rest : List Nat} {p : Nat} {acc : List Nat} {q : Nat × Nat} (h0 : rest ≠ []) (hq : numR rest 0 0 = some q) (h : p + q.1 > 1073741824 ∨ acc.length + 1 > 16 ∨ q.2 = 0) : readR rest p acc = none := by rw [readR, dif_neg h0, hq]; exact dif_pos h
theorem readR_step {rest : List Nat} {p : Nat} {acc : List Nat} {q : Nat × Nat} (h0 : rest ≠ []) (hq : numR rest 0 0 = some q) (h : ¬ (p + q.1 > 1073741824 ∨ acc.length + 1 > 16 ∨ q.2 = 0)) : readR rest p acc = readR (rest.drop q.2) (p + q.1 + 1) (acc ++ [p + q.1]) := by rw [readR, dif_neg h0, hq]; exact dif_neg h
theorem readR_enc : ∀ (l : List Nat) (p : Nat) (acc : List Nat), ascB p l = true → acc.length + l.length ≤ 16 → readR (encGo p l) p acc = some (acc ++ l)
  | [], p, acc, _, _ => by rw [encGo, readR_nil, List.append_nil]
  | x :: r, p, acc, ha, hl => by
    obtain ⟨h1, h2, h3⟩ := ascB_cons.1 ha
    simp only [List.length_cons] at hl
    have hne := numL_ne (x - p)
    have e : numR (numL (x - p) ++ encGo (x + 1) r) 0 0 = some (x - p, (numL (x - p)).length) := by
      rw [numR_numL (x - p) (x - p) 0 0 _ (Nat.le_refl _) (by omega) (by show x - p < 34359738368; omega) (by omega)]
      simp
    rw [encGo, readR_step (by intro e'; rw [List.append_eq_nil_iff] at e'; rw [e'.1] at hne; simp at hne) e (by simp only; omega)]
    simp only [List.drop_left]
    rw [show p + (x - p) = x by omega, readR_enc r (x + 1) (acc ++ [x]) h3 (by simp; omega)]
    simp
theorem readR_inv : ∀ (m : Nat) (rest : List Nat) (p : Nat) (acc l : List Nat), rest.length ≤ m → (∀ c ∈ rest, c < 256) → acc.length ≤ 16 → readR rest p acc = some l → ∃ l', l = acc ++ l' ∧ ascB p l' = true ∧ rest = encGo p l' ∧ acc.length + l'.length ≤ 16 := by
  intro m
  induction m with
  | zero =>
    intro rest p acc l hm hb ha h
    rw [List.eq_nil_of_length_eq_zero (by omega : rest.length = 0), readR_nil] at h
    injection h with h
    exact ⟨[], by simp [h], rfl, List.eq_nil_of_length_eq_zero (by omega), by simpa using ha⟩
  | succ m ih =>
    intro rest p acc l hm hb ha h
    by_cases h0 : rest = []
    · subst h0
      rw [readR_nil] at h; injection h with h
      exact ⟨[], by simp [h], rfl, rfl, by simpa using ha⟩
    · cases hq : numR rest 0 0 with
      | none => rw [readR_none h0 hq] at h; cases h
      | some q =>
        obtain ⟨q1, q2⟩ := q
        by_cases hc : p + q1 > 1073741824 ∨ acc.length + 1 > 16 ∨ q2 = 0
        · rw [readR_bad h0 hq hc] at h; cases h
        · rw [readR_step h0 hq hc] at h
          obtain ⟨n, e1, e2, e3, _⟩ := numR_inv rest 0 0 q1 q2 hb hq
          simp only [Nat.pow_zero, Nat.mul_one, Nat.zero_add, Nat.sub_zero] at e1 e2 e3
          subst e1
          obtain ⟨l', f1, f2, f3, f4⟩ := ih (rest.drop q2) _ _ l (by rw [List.length_drop]; omega) (fun c hc' => hb c (List.mem_of_mem_drop hc')) (by simp; omega) h
          refine ⟨(p + q1) :: l', by rw [f1]; simp, ascB_cons.2 ⟨by omega, by omega, f2⟩, ?_, by simp at f4 ⊢; omega⟩
          rw [encGo, show p + q1 - p = q1 by omega, ← f3]
          exact e3
/-- What the document's own Decode tells. -/
def decR (bs : List Nat) : Option (List Nat) := match readR bs 0 [] with
  | none => none
  | some l => if l = [] then none else some l
theorem decR_iff (bs l : List Nat) (hb : ∀ c ∈ bs, c < 256) : decR bs = some l ↔ rightN l = true ∧ encGo 0 l = bs := by
  unfold decR
  constructor
  · intro h
    split at h
    · cases h
    · rename_i l2 h2
      split at h
      · cases h
      · rename_i hne
        injection h with h
        subst h
        obtain ⟨l', f1, f2, f3, f4⟩ := readR_inv bs.length bs 0 [] l2 (Nat.le_refl _) hb (by simp) h2
        rw [List.nil_append] at f1
        subst f1
        have : 1 ≤ l2.length := by cases l2; exact absurd rfl hne; simp
        exact ⟨by unfold rightN; rw [Bool.and_eq_true, decide_eq_true_eq]; exact ⟨⟨this, by simpa using f4⟩, f2⟩, f3.symm⟩
  · rintro ⟨h1, h2⟩
    unfold rightN at h1
    rw [Bool.and_eq_true, decide_eq_true_eq] at h1
    have := readR_enc l 0 [] h1.2 (by simp; omega)
    rw [h2, List.nil_append] at this
    rw [this]
    exact if_neg (by intro e; rw [e] at h1; simp at h1)
theorem dec_same (bs : List Nat) (hb : ∀ c ∈ bs, c < 256) : decP bs = decR bs := by
  apply Option.ext
  intro l
  rw [decP_iff, decR_iff bs l hb]
theorem enc_inj {a b : List Nat} (ha : rightN a = true) (hb : rightN b = true) (h : encGo 0 a = encGo 0 b) : a = b := by
  have e1 := (decP_iff (encGo 0 a) a).2 ⟨ha, rfl⟩
  have e2 := (decP_iff (encGo 0 a) b).2 ⟨hb, h.symm⟩
  rw [e1] at e2
  injection e2
end Go.Proofs.Ytokjeglhmmijfaa
