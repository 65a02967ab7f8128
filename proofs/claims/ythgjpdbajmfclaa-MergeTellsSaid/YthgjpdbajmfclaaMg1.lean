/-
  Rising numbers of a list, the union of lists, what passes a filter: pure facts.
-/
import Derived.Test.YthgjpdbajmfclaaMg0
namespace Go.Proofs.Ythgjpdbajmfclaa
set_option linter.all false
/-- A list from the first number on that is greater than its first one. -/
def adv : List Int → List Int
  | [] => []
  | x :: r => r.dropWhile fun y => decide (y ≤ x)
theorem drop_len (p : Int → Bool) : ∀ l : List Int, (l.dropWhile p).length ≤ l.length
  | [] => Nat.le_refl _
  | a :: l => by
    rw [List.dropWhile_cons]
    split
    · have := drop_len p l; simp; omega
    · exact Nat.le_refl _
theorem adv_len (x : Int) (r : List Int) : (adv (x :: r)).length ≤ r.length := drop_len _ r
/-- The numbers that are greater than all before them. -/
def asc : List Int → List Int
  | [] => []
  | x :: r => x :: asc (adv (x :: r))
termination_by l => l.length
decreasing_by have := adv_len x r; simp only [List.length_cons]; omega
theorem asc_nil : asc [] = [] := by rw [asc]
theorem asc_cons (x : Int) (r : List Int) : asc (x :: r) = x :: asc (adv (x :: r)) := by rw [asc]
theorem drop_head (x : Int) : ∀ r : List Int, (r.dropWhile fun y => decide (y ≤ x)) = [] ∨ ∃ y t, (r.dropWhile fun y => decide (y ≤ x)) = y :: t ∧ x < y
  | [] => .inl rfl
  | a :: r => by
    rw [List.dropWhile_cons]
    by_cases h : a ≤ x
    · rw [if_pos (decide_eq_true h)]; exact drop_head x r
    · rw [if_neg (by simpa using h)]; exact .inr ⟨a, r, rfl, by omega⟩
theorem adv_head (x : Int) (r : List Int) : adv (x :: r) = [] ∨ ∃ y t, adv (x :: r) = y :: t ∧ x < y := drop_head x r
def SortedI (l : List Int) : Prop := l.Pairwise (· < ·)
theorem asc_ge : ∀ (n : Nat) (l : List Int), l.length ≤ n → SortedI (asc l) ∧ ∀ y ∈ asc l, l.getD 0 0 ≤ y
  | _, [], _ => by rw [asc_nil]; exact ⟨List.Pairwise.nil, by simp⟩
  | 0, _ :: _, h => by simp at h
  | n + 1, x :: r, h => by
    have ih := asc_ge n (adv (x :: r)) (by have := adv_len x r; simp at h; omega)
    rw [asc_cons]
    have hgt : ∀ y ∈ asc (adv (x :: r)), x < y := by
      intro y hy
      rcases adv_head x r with h0 | ⟨z, t, h0, hz⟩
      · rw [h0, asc_nil] at hy; simp at hy
      · have := ih.2 y hy
        rw [h0] at this; simp at this; omega
    refine ⟨List.pairwise_cons.2 ⟨hgt, ih.1⟩, fun y hy => ?_⟩
    rw [List.mem_cons] at hy
    rcases hy with rfl | hy
    · simp
    · have := hgt y hy; simp; omega
theorem asc_sorted (l : List Int) : SortedI (asc l) := (asc_ge _ l (Nat.le_refl _)).1
theorem asc_least (l : List Int) : ∀ y ∈ asc l, l.getD 0 0 ≤ y := (asc_ge _ l (Nat.le_refl _)).2
theorem asc_more {x y : Int} {r : List Int} (h : y ∈ asc (x :: r)) (hy : x < y) : y ∈ asc (adv (x :: r)) := by
  rw [asc_cons, List.mem_cons] at h
  rcases h with rfl | h
  · omega
  · exact h
theorem asc_adv_gt {x y : Int} {r : List Int} (h : y ∈ asc (adv (x :: r))) : x < y := by
  have := asc_sorted (x :: r)
  rw [asc_cons] at this
  exact (List.pairwise_cons.1 this).1 y h
theorem asc_of_sorted : ∀ (l : List Int), SortedI l → asc l = l
  | [], _ => asc_nil
  | x :: r, h => by
    unfold SortedI at h
    rw [List.pairwise_cons] at h
    have e : adv (x :: r) = r := by
      show (r.dropWhile fun y => decide (y ≤ x)) = r
      cases r with
      | nil => rfl
      | cons a t =>
        have := h.1 a (by simp)
        rw [List.dropWhile_cons, if_neg (by simp; omega)]
    rw [asc_cons, e, asc_of_sorted r h.2]
theorem asc_len : ∀ (n : Nat) (l : List Int), l.length ≤ n → (asc l).length ≤ l.length
  | _, [], _ => by rw [asc_nil]; exact Nat.le_refl _
  | 0, _ :: _, h => by simp at h
  | n + 1, x :: r, h => by
    have h1 := adv_len x r
    have := asc_len n (adv (x :: r)) (by simp at h; omega)
    rw [asc_cons]; simp only [List.length_cons]; omega
theorem sorted_eq : ∀ {l m : List Int}, SortedI l → SortedI m → (∀ x, x ∈ l ↔ x ∈ m) → l = m
  | [], [], _, _, _ => rfl
  | [], b :: m, _, _, h => by have := (h b).2 (by simp); simp at this
  | a :: l, [], _, _, h => by have := (h a).1 (by simp); simp at this
  | a :: l, b :: m, hl, hm, h => by
    unfold SortedI at hl hm
    rw [List.pairwise_cons] at hl hm
    have e : a = b := by
      by_cases e : a = b
      · exact e
      · have h1 := (h a).1 (by simp)
        have h2 := (h b).2 (by simp)
        simp [e] at h1
        simp [Ne.symm e] at h2
        have := hm.1 a h1
        have := hl.1 b h2
        omega
    subst e
    congr 1
    refine sorted_eq hl.2 hm.2 fun x => ?_
    have hx := h x
    simp only [List.mem_cons] at hx
    constructor
    · intro h1
      rcases hx.1 (.inr h1) with rfl | h2
      · have := hl.1 _ h1; omega
      · exact h2
    · intro h1
      rcases hx.2 (.inr h1) with rfl | h2
      · have := hm.1 _ h1; omega
      · exact h2
theorem sorted_nodup {l : List Int} (h : SortedI l) : l.Nodup := h.imp fun h => by omega
def insI : List Int → Int → List Int
  | [], x => [x]
  | y :: r, x => if y < x then y :: insI r x else if y = x then y :: r else x :: y :: r
theorem insI_mem : ∀ (l : List Int) (x t : Int), t ∈ insI l x ↔ t = x ∨ t ∈ l
  | [], x, t => by simp [insI]
  | y :: r, x, t => by
    unfold insI
    split
    · rw [List.mem_cons, insI_mem r x t, List.mem_cons]
      constructor
      · rintro (h | h | h) <;> simp [h]
      · rintro (h | h | h) <;> simp [h]
    · split
      · rename_i h; subst h; simp
      · simp
theorem insI_sorted : ∀ (l : List Int) (x : Int), SortedI l → SortedI (insI l x)
  | [], x, _ => by simp [insI, SortedI]
  | y :: r, x, h => by
    unfold SortedI at h
    rw [List.pairwise_cons] at h
    unfold insI
    split
    · rename_i hlt
      have := insI_sorted r x h.2
      unfold SortedI at this ⊢
      rw [List.pairwise_cons]
      refine ⟨fun t ht => ?_, this⟩
      rcases (insI_mem r x t).1 ht with rfl | h1
      · exact hlt
      · exact h.1 t h1
    · split
      · unfold SortedI; rw [List.pairwise_cons]; exact h
      · rename_i h1 h2
        unfold SortedI
        rw [List.pairwise_cons, List.pairwise_cons]
        refine ⟨fun t ht => ?_, h⟩
        rw [List.mem_cons] at ht
        rcases ht with rfl | ht
        · omega
        · have := h.1 t ht; omega
def foldI (l ws : List Int) : List Int := ws.foldl insI l
theorem foldI_sorted : ∀ (ws l : List Int), SortedI l → SortedI (foldI l ws)
  | [], l, h => h
  | x :: r, l, h => foldI_sorted r (insI l x) (insI_sorted l x h)
theorem foldI_mem : ∀ (ws l : List Int) (t : Int), t ∈ foldI l ws ↔ t ∈ ws ∨ t ∈ l
  | [], l, t => by simp [foldI]
  | x :: r, l, t => by
    have := foldI_mem r (insI l x) t
    unfold foldI at this ⊢
    rw [List.foldl_cons, this, insI_mem, List.mem_cons]
    constructor
    · rintro (h | h | h) <;> simp [h]
    · rintro ((h | h) | h) <;> simp [h]
/-- The rising numbers of all lists, rising, each once. -/
def uni (Ls : List (List Int)) : List Int := foldI [] (Ls.flatMap asc)
theorem uni_sorted (Ls : List (List Int)) : SortedI (uni Ls) := foldI_sorted _ _ List.Pairwise.nil
theorem uni_mem (Ls : List (List Int)) (y : Int) : y ∈ uni Ls ↔ ∃ l ∈ Ls, y ∈ asc l := by
  unfold uni; rw [foldI_mem]; simp
theorem uni_eq {Ls : List (List Int)} {m : List Int} (hm : SortedI m) (h : ∀ y, y ∈ m ↔ ∃ l ∈ Ls, y ∈ asc l) : uni Ls = m :=
  sorted_eq (uni_sorted Ls) hm fun y => by rw [uni_mem, h]
/-- What stands in the heads. -/
def inH (H : List El) (y : Int) : Prop := ∃ e ∈ H, y ∈ asc e.l
theorem inH_perm {H K : List El} (h : H.Perm K) (y : Int) : inH H y ↔ inH K y := by
  unfold inH
  constructor
  · rintro ⟨e, he, hy⟩; exact ⟨e, h.mem_iff.1 he, hy⟩
  · rintro ⟨e, he, hy⟩; exact ⟨e, h.mem_iff.2 he, hy⟩
/-- R is what First has told; H are the lists that are left. -/
structure FI (U R : List Int) (H : List El) : Prop where
  rise : SortedI R
  all : ∀ y, y ∈ U ↔ y ∈ R ∨ inH H y
  low : ∀ z ∈ R, ∀ y, inH H y → z ≤ y
theorem sorted_le_last : ∀ {R : List Int} {z : Int}, SortedI R → z ∈ R → z ≤ R.getLastD 0
  | [], _, _, h => by simp at h
  | [a], z, _, h => by simp at h; subst h; simp
  | a :: b :: R, z, hs, h => by
    unfold SortedI at hs
    rw [List.pairwise_cons] at hs
    have e : (a :: b :: R).getLastD 0 = (b :: R).getLastD 0 := by simp [List.getLastD_cons]
    rw [e]
    rw [List.mem_cons] at h
    rcases h with rfl | h
    · have h1 := sorted_le_last hs.2 (z := b) (by simp)
      have h2 := hs.1 b (by simp)
      omega
    · exact sorted_le_last hs.2 h
theorem sorted_snoc {R : List Int} {x : Int} (h : SortedI R) (hx : ∀ z ∈ R, z < x) : SortedI (R ++ [x]) := by
  unfold SortedI at *
  rw [List.pairwise_append]
  exact ⟨h, by simp, fun a ha b hb => by simp at hb; subst hb; exact hx a ha⟩
theorem last_mem : ∀ {R : List Int}, R ≠ [] → R.getLastD 0 ∈ R
  | [], h => absurd rfl h
  | [a], _ => by simp
  | a :: b :: R, _ => by
    have h := last_mem (R := b :: R) (by simp)
    have e : (a :: b :: R).getLastD 0 = (b :: R).getLastD 0 := by simp [List.getLastD_cons]
    rw [e]; exact List.mem_cons_of_mem _ h
theorem FI.next {U R R' : List Int} {H H' : List El} {x : Int} (h : FI U R H) (hmin : ∀ y, inH H y → x ≤ y) (hx : inH H x) (hsplit : ∀ y, inH H y ↔ y = x ∨ inH H' y)
    (hR : R' = if R = [] ∨ R.getLastD 0 ≠ x then R ++ [x] else R) : FI U R' H' := by
  have hle : ∀ z ∈ R, z ≤ x := fun z hz => h.low z hz x hx
  by_cases hc : R = [] ∨ R.getLastD 0 ≠ x
  · rw [if_pos hc] at hR
    subst hR
    have hlt : ∀ z ∈ R, z < x := by
      intro z hz
      have h1 := hle z hz
      rcases hc with rfl | hc
      · simp at hz
      · have h2 := sorted_le_last h.rise hz
        have h3 : R.getLastD 0 ∈ R := last_mem (by rintro rfl; simp at hz)
        have h4 := hle _ h3
        omega
    refine ⟨sorted_snoc h.rise hlt, fun y => ?_, fun z hz y hy => ?_⟩
    · rw [h.all, hsplit, List.mem_append, List.mem_singleton]
      constructor
      · rintro (h1 | h1 | h1) <;> simp [h1]
      · rintro ((h1 | h1) | h1) <;> simp [h1]
    · have h1 : inH H y := (hsplit y).2 (.inr hy)
      have h2 := hmin y h1
      rw [List.mem_append, List.mem_singleton] at hz
      rcases hz with hz | rfl
      · exact h.low z hz y h1
      · exact h2
  · rw [if_neg hc] at hR
    subst hR
    rw [not_or, Classical.not_not] at hc
    have hxR : x ∈ R' := by
      rw [← hc.2]
      exact last_mem hc.1
    refine ⟨h.rise, fun y => ?_, fun z hz y hy => h.low z hz y ((hsplit y).2 (.inr hy))⟩
    rw [h.all, hsplit]
    constructor
    · rintro (h1 | h1 | h1)
      · exact .inl h1
      · subst h1; exact .inl hxR
      · exact .inr h1
    · rintro (h1 | h1)
      · exact .inl h1
      · exact .inr (.inr h1)
theorem sorted_prefix {U R : List Int} (hU : SortedI U) (hR : SortedI R) (hsub : ∀ y ∈ R, y ∈ U) (hlow : ∀ y ∈ U, y ∉ R → ∀ z ∈ R, z ≤ y) : R = U.take R.length := by
  have h1 : SortedI (R ++ U.filter fun y => decide (y ∉ R)) := by
    unfold SortedI
    rw [List.pairwise_append]
    refine ⟨hR, hU.filter _, fun a ha b hb => ?_⟩
    rw [List.mem_filter, decide_eq_true_eq] at hb
    have h2 := hlow b hb.1 hb.2 a ha
    have h3 : a ≠ b := by rintro rfl; exact hb.2 ha
    omega
  have h2 : U = R ++ U.filter fun y => decide (y ∉ R) := by
    refine sorted_eq hU h1 fun y => ?_
    rw [List.mem_append, List.mem_filter, decide_eq_true_eq]
    constructor
    · intro hy
      by_cases hr : y ∈ R
      · exact .inl hr
      · exact .inr ⟨hy, hr⟩
    · rintro (h | h)
      · exact hsub y h
      · exact h.1
  conv => rhs; rw [h2]
  rw [List.take_left]
theorem FI.take {U R : List Int} {H : List El} (hU : SortedI U) (h : FI U R H) : R = U.take R.length :=
  sorted_prefix hU h.rise (fun y hy => (h.all y).2 (.inl hy)) fun y hy hr z hz => by
    rcases (h.all y).1 hy with h1 | h1
    · exact absurd h1 hr
    · exact h.low z hz y h1
theorem FI.done {U R : List Int} (hU : SortedI U) (h : FI U R []) : R = U :=
  sorted_eq h.rise hU fun y => by rw [h.all]; simp [inH]
end Go.Proofs.Ythgjpdbajmfclaa
