/-
  Right lists: what Put and Drop leave is right; where a term stands; no condition.
-/
import Derived.Test.YtbfmklaakjepaaaDoorShb
import Derived.Test.YtbfmklaakjepaaaDoorSh4
namespace Go.Proofs.YtbfmklaakjepaaaDoor
open Go.RowKit Go.WideShapes Go.ChangeShapes
set_option linter.all false
def Srt (l : List En) : Prop := (∀ e ∈ l, okOne e) ∧ l.Pairwise fun a b => lt a.1 b.1 = true
theorem getD_lt {l : List En} {i : Nat} (h : i < l.length) : l.getD i d0 = l[i] := by rw [List.getD_eq_getElem?_getD, List.getElem?_eq_getElem h]; rfl
theorem srt_of {l : List En} (h : OKE l) : Srt l := by
  refine ⟨fun e he => ?_, List.pairwise_iff_getElem.2 fun i j hi hj hij => ?_⟩
  · obtain ⟨i, hi, rfl⟩ := List.getElem_of_mem he
    have := (h i hi).1
    rw [getD_lt hi] at this; exact this
  · have := ok_lt h hij hj
    rw [getD_lt hi, getD_lt hj] at this; exact this
theorem ok_of {l : List En} (h : Srt l) : OKE l := by
  intro i hi
  refine ⟨by rw [getD_lt hi]; exact h.1 _ (List.getElem_mem _), fun h0 => ?_⟩
  rw [getD_lt hi, getD_lt (show i - 1 < l.length by omega)]
  exact List.pairwise_iff_getElem.1 h.2 (i - 1) i (by omega) hi (by omega)
theorem mem_put {t : ByteArray} {v : Int} {z : En} : ∀ {l : List En}, z ∈ putR t v l → z = (t, v) ∨ z ∈ l
  | [], h => by simpa [putR] using h
  | e :: l, h => by
    unfold putR at h
    split at h
    · rcases List.mem_cons.1 h with q | q
      · exact .inr (by rw [q]; exact List.mem_cons_self)
      · rcases mem_put q with r | r
        · exact .inl r
        · exact .inr (List.mem_cons_of_mem _ r)
    · split at h
      · rcases List.mem_cons.1 h with q | q
        · exact .inl q
        · exact .inr (List.mem_cons_of_mem _ q)
      · rcases List.mem_cons.1 h with q | q
        · exact .inl q
        · exact .inr q
theorem put_pair {t : ByteArray} {v : Int} : ∀ {l : List En}, (l.Pairwise fun a b => lt a.1 b.1 = true) → (putR t v l).Pairwise fun a b => lt a.1 b.1 = true
  | [], _ => by simp [putR]
  | e :: l, h => by
    obtain ⟨h1, h2⟩ := List.pairwise_cons.1 h
    unfold putR
    split
    · rename_i he
      refine List.pairwise_cons.2 ⟨fun z hz => ?_, put_pair h2⟩
      rcases mem_put hz with r | r
      · rw [r]; exact he
      · exact h1 z r
    · rename_i he
      split
      · rename_i hq
        refine List.pairwise_cons.2 ⟨fun z hz => ?_, h2⟩
        have := h1 z hz
        rw [hq] at this; exact this
      · rename_i hq
        have hte := lt_of he hq
        refine List.pairwise_cons.2 ⟨fun z hz => ?_, h⟩
        rcases List.mem_cons.1 hz with r | r
        · rw [r]; exact hte
        · exact lt_trans hte (h1 z r)
theorem put_ok {t : ByteArray} {v : Int} {l : List En} (h : OKE l) (ho : okOne (t, v)) : OKE (putE t v l) := by
  have hs := srt_of h
  rw [put_is]
  refine ok_of ⟨fun z hz => ?_, put_pair hs.2⟩
  rcases mem_put hz with r | r
  · rw [r]; exact ho
  · exact hs.1 z r
theorem drop_sub (t : ByteArray) : ∀ l : List En, (dropR t l).Sublist l
  | [] => by simp [dropR]
  | e :: l => by
    unfold dropR
    split
    · exact (drop_sub t l).cons₂ e
    · split
      · exact List.sublist_cons_self e l
      · exact List.Sublist.refl _
theorem drop_ok {t : ByteArray} {l : List En} (h : OKE l) : OKE (dropE t l) := by
  have hs := srt_of h
  rw [drop_is]
  exact ok_of ⟨fun z hz => hs.1 z ((drop_sub t l).subset hz), hs.2.sublist (drop_sub t l)⟩
theorem ok_texts {l : List En} (h : OKE l) : Texts l := fun e he => Nat.le_trans (rightL_len ((srt_of h).1 e he).1) (by decide)
theorem there_lt {t : ByteArray} {l : List En} (h : thereN t l = true) : seekN t l < l.length ∧ (l.getD (seekN t l) d0).1 = t := of_decide_eq_true h
theorem put_len {t : ByteArray} {v : Int} {l : List En} : (putE t v l).length = if thereN t l = true then l.length else l.length + 1 := by
  have := seek_leN t l
  unfold putE
  rw [List.length_append, List.length_cons, List.length_take, List.length_drop]
  split
  · rename_i h; have := (there_lt h).1; omega
  · omega
theorem drop_len {t : ByteArray} {l : List En} : (dropE t l).length = if thereN t l = true then l.length - 1 else l.length := by
  have := seek_leN t l
  unfold dropE
  rw [List.length_append, List.length_take, List.length_drop]
  split
  · rename_i h; have := (there_lt h).1; omega
  · omega
/-- At which place a right list has a term. -/
theorem at_is {t : ByteArray} {l : List En} (h : OKE l) {k : Nat} (hk : k < l.length) : decide ((l.getD k d0).1 = t) = (thereN t l && decide (k = seekN t l)) := by
  by_cases q : (l.getD k d0).1 = t
  · have h1 : lt (l.getD k d0).1 t = false := by rw [q]; exact lt_irr t
    have h2 := seek_sort h t hk
    rw [h1] at h2
    have h3 : ¬ k < seekN t l := of_decide_eq_false h2.symm
    have h4 : k = seekN t l := by
      rcases Nat.eq_or_lt_of_not_lt h3 with e | g
      · exact e
      · have hs : seekN t l < l.length := by omega
        have h5 := seek_at t l hs
        have h6 := ok_lt h g hk
        rw [q] at h6; rw [h6] at h5; cases h5
    have h5 : thereN t l = true := decide_eq_true ⟨by omega, by rw [← h4]; exact q⟩
    rw [decide_eq_true q, h5, decide_eq_true h4]; rfl
  · rw [decide_eq_false q]
    cases ht : thereN t l with
    | false => rfl
    | true =>
      rw [Bool.true_and]
      exact (decide_eq_false fun e => q (by rw [e]; exact (there_lt ht).2)).symm
theorem seek_put (t : ByteArray) (v : Int) : ∀ l : List En, seekN t (putR t v l) = seekN t l ∧ (putR t v l).getD (seekN t l) d0 = (t, v) ∧ seekN t l < (putR t v l).length
  | [] => by simp [putR, seekN, lt_irr]
  | e :: l => by
    obtain ⟨a, b, c⟩ := seek_put t v l
    unfold putR
    by_cases h : lt e.1 t = true
    · rw [if_pos h]
      simp only [seekN, if_pos h]
      exact ⟨by rw [a], by simpa using b, by simpa using c⟩
    · rw [if_neg h]
      have h0 : seekN t (e :: l) = 0 := by unfold seekN; rw [if_neg h]
      rw [h0]
      have hi : ¬ lt t t = true := by rw [lt_irr]; simp
      split
      · exact ⟨by unfold seekN; rw [if_neg hi], rfl, by simp⟩
      · exact ⟨by unfold seekN; rw [if_neg hi], rfl, by simp⟩
theorem seek_putE (t : ByteArray) (v : Int) (l : List En) : seekN t (putE t v l) = seekN t l ∧ (putE t v l).getD (seekN t l) d0 = (t, v) ∧ seekN t l < (putE t v l).length := by
  rw [put_is]; exact seek_put t v l
/-- What the law's own search has found behind k places. -/
def atK (t : ByteArray) (l : List En) (k : Nat) : Int := if thereN t l = true ∧ seekN t l < k then (seekN t l : Int) else -1
theorem atK_0 (t : ByteArray) (l : List En) : atK t l 0 = -1 := by unfold atK; rw [if_neg (by omega)]
theorem atK_hit {t : ByteArray} {l : List En} {k : Nat} (h : thereN t l = true) (hk : k = seekN t l) : atK t l (k + 1) = (k : Int) := by unfold atK; rw [if_pos ⟨h, by omega⟩, hk]
theorem atK_miss {t : ByteArray} {l : List En} {k : Nat} (h : (thereN t l && decide (k = seekN t l)) = false) : atK t l (k + 1) = atK t l k := by
  unfold atK
  by_cases q : thereN t l = true
  · rw [q, Bool.true_and] at h
    have := of_decide_eq_false h
    by_cases r : seekN t l < k
    · rw [if_pos ⟨q, by omega⟩, if_pos ⟨q, r⟩]
    · rw [if_neg (by omega), if_neg (by omega)]
  · rw [if_neg (fun z => q z.1), if_neg (fun z => q z.1)]
theorem atK_yes {t : ByteArray} {l : List En} (h : thereN t l = true) : atK t l l.length = (seekN t l : Int) := by unfold atK; rw [if_pos ⟨h, (there_lt h).1⟩]
theorem atK_no {t : ByteArray} {l : List En} (h : thereN t l = false) (k : Nat) : atK t l k = -1 := by unfold atK; rw [h, if_neg (fun z => by cases z.1)]
end Go.Proofs.YtbfmklaakjepaaaDoor
