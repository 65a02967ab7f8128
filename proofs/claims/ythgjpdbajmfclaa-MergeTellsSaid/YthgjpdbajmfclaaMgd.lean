/-
  Facts of unions, meets and what is left, told by their members; lists cut; conditions: rising lists.
-/
import Derived.Test.YthgjpdbajmfclaaMgc
namespace Go.Proofs.Ythgjpdbajmfclaa
open Go.RowKit Go.WideShapes Go.ChangeShapes
set_option linter.all false
theorem asc_asc (l : List Int) : asc (asc l) = asc l := asc_of_sorted _ (asc_sorted l)
theorem flt_mem {b l : List Int} {o : Bool} (y : Int) : y ∈ flt b o l ↔ y ∈ l ∧ decide (y ∈ asc b) = o := by
  unfold flt
  rw [List.mem_filter, beq_iff_eq]
theorem flt_sorted {b l : List Int} {o : Bool} (h : SortedI l) : SortedI (flt b o l) := h.filter _
theorem uni1 (l : List Int) : uni [l] = asc l := uni_eq (asc_sorted l) (fun y => by simp)
theorem uni_nil : uni [] = [] := rfl
theorem uni2_mem (a b : List Int) (y : Int) : y ∈ uni [a, b] ↔ y ∈ asc a ∨ y ∈ asc b := by rw [uni_mem]; simp
theorem uni3_mem (a b c : List Int) (y : Int) : y ∈ uni [a, b, c] ↔ y ∈ asc a ∨ y ∈ asc b ∨ y ∈ asc c := by rw [uni_mem]; simp
theorem inter1 (a : List Int) : interL [a] = asc a := rfl
theorem inter2_eq (a b : List Int) : interL [a, b] = flt b true (asc a) := by
  show flt b true (asc (asc a)) = _
  rw [asc_asc]
theorem inter2_sorted (a b : List Int) : SortedI (interL [a, b]) := by rw [inter2_eq]; exact flt_sorted (asc_sorted a)
theorem inter2_mem (a b : List Int) (y : Int) : y ∈ interL [a, b] ↔ y ∈ asc a ∧ y ∈ asc b := by
  rw [inter2_eq, flt_mem, decide_eq_true_eq]
theorem inter3_eq (a b c : List Int) : interL [a, b, c] = flt c true (interL [a, b]) := by
  show flt c true (asc (flt b true (asc (asc a)))) = flt c true (flt b true (asc (asc a)))
  rw [asc_of_sorted (flt b true (asc (asc a))) (flt_sorted (asc_sorted _))]
theorem inter3_sorted (a b c : List Int) : SortedI (interL [a, b, c]) := by rw [inter3_eq]; exact flt_sorted (inter2_sorted a b)
theorem inter3_mem (a b c : List Int) (y : Int) : y ∈ interL [a, b, c] ↔ y ∈ asc a ∧ y ∈ asc b ∧ y ∈ asc c := by
  rw [inter3_eq, flt_mem, decide_eq_true_eq, inter2_mem, and_assoc]
theorem minus_mem (a b : List Int) (y : Int) : y ∈ flt b false (asc a) ↔ y ∈ asc a ∧ ¬ y ∈ asc b := by
  rw [flt_mem, decide_eq_false_iff_not]
theorem minus_sorted (a b : List Int) : SortedI (flt b false (asc a)) := flt_sorted (asc_sorted a)
theorem insI_len : ∀ (l : List Int) (x : Int), (insI l x).length ≤ l.length + 1
  | [], x => by simp [insI]
  | a :: r, x => by
    have := insI_len r x
    unfold insI
    repeat' split
    all_goals simp only [List.length_cons] at *
    all_goals omega
theorem foldI_len : ∀ (ws l : List Int), (foldI l ws).length ≤ l.length + ws.length
  | [], l => by simp [foldI]
  | x :: r, l => by
    have h1 := foldI_len r (insI l x)
    have h2 := insI_len l x
    have e : foldI l (x :: r) = foldI (insI l x) r := rfl
    rw [e, List.length_cons]; omega
theorem uni_len (Ls : List (List Int)) : (uni Ls).length ≤ (Ls.map List.length).sum := by
  have h1 := foldI_len (Ls.flatMap asc) []
  have h2 : ∀ L : List (List Int), (L.flatMap asc).length ≤ (L.map List.length).sum := by
    intro L
    induction L with
    | nil => simp
    | cons a r ih =>
      have := asc_len _ a (Nat.le_refl _)
      rw [List.flatMap_cons, List.length_append, List.map_cons, List.sum_cons]; omega
  have := h2 Ls
  unfold uni
  rw [List.length_nil] at h1; omega
theorem asc_len' (l : List Int) : (asc l).length ≤ l.length := asc_len _ l (Nat.le_refl _)
theorem SI.take {w : World} {B n c k : Nat} {A : Option Addr} {l : List Int} (h : SI w B A n c l) (hk : k ≤ n) : SI w B A k c (l.take k) := by
  refine ⟨by have := h.1; omega, h.2.1, fun e => by have := h.2.2.1 e; omega, ?_, fun hk0 => ?_⟩
  · have := h.len
    rw [ks_len, List.length_take]; omega
  · obtain ⟨ad, e, hb, hc⟩ := h.2.2.2.2 (by omega)
    refine ⟨ad, e, hb, fun j u hu => hc j u ?_⟩
    unfold ks at hu ⊢
    rw [List.getElem?_map] at hu ⊢
    rw [List.getElem?_take] at hu
    split at hu
    · exact hu
    · simp at hu
end Go.Proofs.Ythgjpdbajmfclaa
