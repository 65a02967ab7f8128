import Derived.Lib.SlicesCompact
import Derived.Lib.Hide
import Derived.Laws.IdiomCopy
import Derived.KernelRfl
set_option linter.all false
namespace Go.Proofs.Ytoffibcplbfokaa
/-- A letter or digit as it counts; 0: none. -/
def letter (c : UInt8) : UInt8 := if (97 ≤ c ∧ c ≤ 122) ∨ (48 ≤ c ∧ c ≤ 57) then c else if 65 ≤ c ∧ c ≤ 90 then c + 32 else 0
def cutW (w : List UInt8) : List (List UInt8) := if w = [] then [] else [w.take 12]
def wordsGo : List UInt8 → List UInt8 → List (List UInt8)
  | w, [] => cutW w
  | w, c :: r => if letter c = 0 then cutW w ++ wordsGo [] r else wordsGo (w ++ [letter c]) r
def words (s : List UInt8) : List (List UInt8) := wordsGo [] s
def srt (l : List (List UInt8)) : List (List UInt8) := l.mergeSort fun x y => decide (x ≤ y)
def toks (s : List UInt8) : List (List UInt8) := Lib.compact (srt (words s))
def Rises (l : List (List UInt8)) : Prop := l.Pairwise (· < ·)
theorem srt_pair (l : List (List UInt8)) : (srt l).Pairwise (· ≤ ·) := by
  have := List.pairwise_mergeSort (le := fun x y : List UInt8 => decide (x ≤ y)) (by intro a b c h1 h2; simp at *; exact List.le_trans h1 h2) (by intro a b; simp; exact List.le_total a b) l
  exact this.imp (by simp)
theorem srt_mem (l : List (List UInt8)) (x : List UInt8) : x ∈ srt l ↔ x ∈ l := by
  unfold srt; exact List.mem_mergeSort
theorem lt_of_le_ne {a b : List UInt8} (h : a ≤ b) (hne : a ≠ b) : a < b := by
  rcases List.le_total a b with _ | h2
  · exact (List.not_le.1 (fun h' => hne (List.le_antisymm h h')))
  · exact absurd (List.le_antisymm h h2) hne
theorem compact_rises {zs : List (List UInt8)} (h : zs.Pairwise (· ≤ ·)) : Rises (Lib.compact zs) := by
  unfold Rises Lib.compact Lib.compactUpTo
  rw [List.pairwise_map]
  have hr : (((List.range zs.length).filter (Lib.keeps zs.toArray))).Pairwise (fun i j => i < j ∧ j < zs.length ∧ Lib.keeps zs.toArray j = true) := by
    have h1 : (List.range zs.length).Pairwise (· < ·) := List.pairwise_lt_range
    have h2 := h1.filter (Lib.keeps zs.toArray)
    refine List.Pairwise.imp_of_mem ?_ h2
    intro a b ha hb hab
    rw [List.mem_filter] at hb
    exact ⟨hab, List.mem_range.1 hb.1, hb.2⟩
  refine hr.imp ?_
  rintro i j ⟨hij, hj, hk⟩
  have e : ∀ k (hk : k < zs.length), zs.toArray[k]! = zs[k] := fun k hk => by rw [getElem!_pos zs.toArray k (by simpa using hk)]; simp
  unfold Lib.keeps at hk
  have hk' := of_decide_eq_true hk
  have hne : zs.toArray[j]! ≠ zs.toArray[j - 1]! := by
    rcases hk' with h0 | h0
    · omega
    · exact h0
  rw [e j hj, e (j - 1) (by omega)] at hne
  rw [e i (by omega), e j hj]
  have g : ∀ a b (hab : a ≤ b) (hb : b < zs.length), zs[a]'(by omega) ≤ zs[b] := by
    intro a b hab hb
    by_cases hq : a = b
    · subst hq; exact List.le_refl _
    · exact List.pairwise_iff_getElem.1 h a b (by omega) hb (by omega)
  refine lt_of_le_ne (g i j (by omega) hj) (fun heq => hne ?_)
  exact List.le_antisymm (heq ▸ g i (j - 1) (by omega) (by omega)) (g (j - 1) j (by omega) hj)
theorem compact_mem (zs : List (List UInt8)) (x : List UInt8) : x ∈ Lib.compact zs ↔ x ∈ zs := by
  have e : ∀ k (hk : k < zs.length), zs.toArray[k]! = zs[k] := fun k hk => by rw [getElem!_pos zs.toArray k (by simpa using hk)]; simp
  unfold Lib.compact Lib.compactUpTo
  simp only [List.mem_map, List.mem_filter, List.mem_range]
  constructor
  · rintro ⟨k, ⟨hk, _⟩, rfl⟩
    rw [e k hk]; exact List.getElem_mem hk
  · intro hx
    obtain ⟨k, hk, rfl⟩ := List.mem_iff_getElem.1 hx
    have : ∀ n k (hk : k < zs.length), k = n → ∃ a, (a < zs.length ∧ Lib.keeps zs.toArray a = true) ∧ zs.toArray[a]! = zs[k] := by
      intro n
      induction n with
      | zero => rintro k hk rfl; exact ⟨0, ⟨hk, by simp [Lib.keeps]⟩, e 0 hk⟩
      | succ n ih =>
        rintro k hk rfl
        by_cases hd : zs.toArray[n + 1]! = zs.toArray[n]!
        · obtain ⟨a, ha, h2⟩ := ih n (by omega) rfl
          refine ⟨a, ha, ?_⟩
          rw [h2, ← e n (by omega), ← hd, e (n + 1) hk]
        · exact ⟨n + 1, ⟨hk, by simp only [Lib.keeps]; exact decide_eq_true (.inr (by simpa using hd))⟩, e _ hk⟩
    exact this k k hk rfl
theorem toks_rises (s : List UInt8) : Rises (toks s) := compact_rises (srt_pair _)
theorem toks_mem (s x : List UInt8) : x ∈ toks s ↔ x ∈ words s := by unfold toks; rw [compact_mem, srt_mem]
theorem rises_eq : ∀ {l m : List (List UInt8)}, Rises l → Rises m → (∀ x, x ∈ l ↔ x ∈ m) → l = m
  | [], [], _, _, _ => rfl
  | [], b :: m, _, _, h => by have := (h b).2 (by simp); simp at this
  | a :: l, [], _, _, h => by have := (h a).1 (by simp); simp at this
  | a :: l, b :: m, hl, hm, h => by
    unfold Rises at hl hm
    rw [List.pairwise_cons] at hl hm
    have e : a = b := by
      by_cases e : a = b
      · exact e
      · have h1 := (h a).1 (by simp)
        have h2 := (h b).2 (by simp)
        simp [e] at h1
        simp [Ne.symm e] at h2
        exact absurd (hm.1 a h1) (List.not_lt.2 (List.le_of_lt (hl.1 b h2)))
    subst e
    congr 1
    refine rises_eq hl.2 hm.2 fun x => ?_
    have hx := h x
    simp only [List.mem_cons] at hx
    constructor
    · intro h1
      rcases hx.1 (.inr h1) with rfl | h2
      · exact absurd (hl.1 _ h1) (List.lt_irrefl _)
      · exact h2
    · intro h1
      rcases hx.2 (.inr h1) with rfl | h2
      · exact absurd (hm.1 _ h1) (List.lt_irrefl _)
      · exact h2
theorem toks_eq {s : List UInt8} {l : List (List UInt8)} (h : Rises l) (hm : ∀ x, x ∈ l ↔ x ∈ words s) : toks s = l :=
  rises_eq (toks_rises s) h fun x => by rw [toks_mem, hm]
theorem wordsGo_append : ∀ (a b w : List UInt8) (c : UInt8), letter c = 0 → wordsGo w (a ++ c :: b) = wordsGo w a ++ words b
  | [], b, w, c, hc => by simp only [List.nil_append, wordsGo, if_pos hc, words]
  | x :: a, b, w, c, hc => by
    rw [List.cons_append, wordsGo, wordsGo]
    split
    · rw [wordsGo_append a b _ c hc, List.append_assoc]
    · exact wordsGo_append a b _ c hc
theorem words_join (a b : List UInt8) (c : UInt8) (hc : letter c = 0) : words (a ++ c :: b) = words a ++ words b := wordsGo_append a b [] c hc
/-- All its bytes are letters or digits as they count. -/
def lettersB (l : List UInt8) : Bool := l.all fun c => letter c == c && c != 0
theorem letter_checks : ((List.range 256).all fun n => let c := UInt8.ofNat n; (letter (letter c) == letter c) && (letter c == 0 || letter c != 0)) = true := by kernel_rfl
theorem letter_idem (c : UInt8) : letter (letter c) = letter c := by
  have := List.all_eq_true.1 letter_checks c.toNat (List.mem_range.2 c.toNat_lt)
  simp at this
  exact this.1
theorem lettersB_append (a b : List UInt8) : lettersB (a ++ b) = (lettersB a && lettersB b) := by simp [lettersB]
def wordB (x : List UInt8) : Prop := x ≠ [] ∧ x.length ≤ 12 ∧ lettersB x = true
theorem wordsGo_word : ∀ (s w : List UInt8), lettersB w = true → ∀ x ∈ wordsGo w s, wordB x
  | [], w, hw, x, hx => by
    rw [wordsGo, cutW] at hx
    split at hx
    · simp at hx
    · rename_i hne
      simp at hx; subst hx
      refine ⟨?_, by simp; omega, ?_⟩
      · cases w with
        | nil => exact absurd rfl hne
        | cons a w => simp
      · have : w = w.take 12 ++ w.drop 12 := (List.take_append_drop 12 w).symm
        rw [this, lettersB_append, Bool.and_eq_true] at hw
        exact hw.1
  | c :: r, w, hw, x, hx => by
    rw [wordsGo] at hx
    split at hx
    · rw [List.mem_append] at hx
      rcases hx with hx | hx
      · exact wordsGo_word [] w hw x (by rw [wordsGo]; exact hx)
      · exact wordsGo_word r [] rfl x hx
    · rename_i hne
      refine wordsGo_word r _ ?_ x hx
      rw [lettersB_append, hw]
      simp [lettersB, letter_idem, hne]
theorem words_word {s x : List UInt8} (h : x ∈ words s) : wordB x := wordsGo_word s [] rfl x h
theorem wordsGo_letters : ∀ (t w : List UInt8), lettersB t = true → wordsGo w t = cutW (w ++ t)
  | [], w, _ => by rw [wordsGo, List.append_nil]
  | c :: r, w, h => by
    simp only [lettersB, List.all_cons, Bool.and_eq_true, beq_iff_eq, bne_iff_ne, ne_eq] at h
    obtain ⟨⟨h1, h2⟩, h3⟩ := h
    rw [wordsGo, if_neg (by rw [h1]; exact h2), wordsGo_letters r _ h3, h1]
    simp
theorem words_one {x : List UInt8} (h : wordB x) : words x = [x] := by
  unfold words
  rw [wordsGo_letters x [] h.2.2, List.nil_append, cutW, if_neg h.1, List.take_of_length_le h.2.1]
theorem toks_one {x : List UInt8} (h : wordB x) : toks x = [x] := toks_eq (by simp [Rises]) (by rw [words_one h]; simp)
theorem toks_nil : toks [] = [] := toks_eq (by simp [Rises]) (by simp [words, wordsGo, cutW])
theorem wordsGo_map (f : UInt8 → UInt8) (hf : ∀ c, letter (f c) = letter c) : ∀ (s w : List UInt8), wordsGo w (s.map f) = wordsGo w s
  | [], w => rfl
  | c :: r, w => by rw [List.map_cons, wordsGo, wordsGo, hf, wordsGo_map f hf r, wordsGo_map f hf r]
theorem toks_map (f : UInt8 → UInt8) (hf : ∀ c, letter (f c) = letter c) (s : List UInt8) : toks (s.map f) = toks s := by
  unfold toks words; rw [wordsGo_map f hf]
end Go.Proofs.Ytoffibcplbfokaa
