/-
  What Put and Drop make of lists, told by rounds; their laws; no condition.
-/
import Derived.Test.YtbfmklaakjepaaaDoorSh9
namespace Go.Proofs.YtbfmklaakjepaaaDoor
open Go.RowKit Go.WideShapes Go.ChangeShapes
set_option linter.all false
def putR (t : ByteArray) (v : Int) : List En → List En
  | [] => [(t, v)]
  | e :: l => if lt e.1 t = true then e :: putR t v l else if e.1 = t then (t, v) :: l else (t, v) :: e :: l
def dropR (t : ByteArray) : List En → List En
  | [] => []
  | e :: l => if lt e.1 t = true then e :: dropR t l else if e.1 = t then l else e :: l
def thereR (t : ByteArray) : List En → Bool
  | [] => false
  | e :: l => if lt e.1 t = true then thereR t l else decide (e.1 = t)
def wasR (t : ByteArray) : List En → Int
  | [] => 0
  | e :: l => if lt e.1 t = true then wasR t l else if e.1 = t then e.2 else 0
theorem there_is (t : ByteArray) : ∀ l : List En, thereN t l = thereR t l
  | [] => by unfold thereN; exact decide_eq_false (by simp [seekN])
  | e :: l => by
    have ih := there_is t l
    unfold thereN at ih ⊢
    unfold thereR seekN
    by_cases h : lt e.1 t = true
    · rw [if_pos h, if_pos h, ← ih]
      simp
    · rw [if_neg h, if_neg h]
      simp
theorem put_is (t : ByteArray) (v : Int) : ∀ l : List En, putE t v l = putR t v l
  | [] => by simp [putE, putR, seekN]
  | e :: l => by
    have ih := put_is t v l
    have ht := there_is t (e :: l)
    have ht' := there_is t l
    unfold putE at ih ⊢
    rw [ht] at ⊢
    rw [ht'] at ih
    unfold putR thereR seekN
    by_cases h : lt e.1 t = true
    · rw [if_pos h, if_pos h, if_pos h, ← ih]
      by_cases q : thereR t l = true
      · rw [if_pos q, if_pos q]; simp
      · rw [if_neg q, if_neg q]; simp
    · rw [if_neg h, if_neg h, if_neg h]
      by_cases q : e.1 = t
      · simp [q]
      · simp [q]
theorem drop_is (t : ByteArray) : ∀ l : List En, dropE t l = dropR t l
  | [] => by simp [dropE, dropR, seekN]
  | e :: l => by
    have ih := drop_is t l
    have ht := there_is t (e :: l)
    have ht' := there_is t l
    unfold dropE at ih ⊢
    rw [ht] at ⊢
    rw [ht'] at ih
    unfold dropR thereR seekN
    by_cases h : lt e.1 t = true
    · rw [if_pos h, if_pos h, if_pos h, ← ih]
      by_cases q : thereR t l = true
      · rw [if_pos q, if_pos q]; simp
      · rw [if_neg q, if_neg q]; simp
    · rw [if_neg h, if_neg h, if_neg h]
      by_cases q : e.1 = t
      · simp [q]
      · simp [q]
theorem was_is (t : ByteArray) : ∀ l : List En, wasN t l = wasR t l
  | [] => by unfold wasN; rw [there_is]; simp [thereR, wasR]
  | e :: l => by
    have ih := was_is t l
    have ht := there_is t (e :: l)
    have ht' := there_is t l
    unfold wasN at ih ⊢
    rw [ht] at ⊢
    rw [ht'] at ih
    unfold wasR thereR seekN
    by_cases h : lt e.1 t = true
    · rw [if_pos h, if_pos h, if_pos h, ← ih]
      simp
    · rw [if_neg h, if_neg h, if_neg h]
      by_cases q : e.1 = t
      · simp [q]
      · simp [q]
theorem lt_ne {x y : ByteArray} (h : lt x y = true) : x ≠ y := fun e => by rw [e, lt_irr] at h; cases h
theorem lt_of {x y : ByteArray} (h : ¬ lt x y = true) (q : x ≠ y) : lt y x = true := by
  cases g : lt y x with
  | true => rfl
  | false => exact absurd (lt_tri x y (by simpa using h) g) q
/-- Putting one text behind another one doesn't hang on the order. -/
theorem put_put {a b : ByteArray} (va vb : Int) (hab : lt a b = true) : ∀ l : List En, putR b vb (putR a va l) = putR a va (putR b vb l)
  | [] => by
    have h1 : ¬ lt b a = true := by rw [lt_asym hab]; simp
    have h2 : ¬ b = a := fun e => lt_ne hab e.symm
    simp [putR, hab, h1, h2]
  | e :: l => by
    have ih := put_put va vb hab l
    have h1 : ¬ lt b a = true := by rw [lt_asym hab]; simp
    have h2 : ¬ b = a := fun e => lt_ne hab e.symm
    by_cases ea : lt e.1 a = true
    · have eb := lt_trans ea hab
      simp only [putR, ea, eb, if_true, ih]
    · by_cases eqa : e.1 = a
      · have eb : lt e.1 b = true := by rw [eqa]; exact hab
        simp only [putR, if_neg ea, if_pos eqa, if_pos eb, if_pos hab]
      · have ae := lt_of ea eqa
        by_cases eb : lt e.1 b = true
        · simp only [putR, if_neg ea, if_neg eqa, if_pos eb, if_pos hab]
        · by_cases eqb : e.1 = b
          · simp only [putR, if_neg ea, if_neg eqa, if_neg eb, if_pos eqb, if_pos hab, if_neg h1, if_neg h2]
          · simp only [putR, if_neg ea, if_neg eqa, if_neg eb, if_neg eqb, if_pos hab, if_neg h1, if_neg h2]
theorem put_comm {a b : ByteArray} (va vb : Int) (hab : a ≠ b) (l : List En) : putE b vb (putE a va l) = putE a va (putE b vb l) := by
  simp only [put_is]
  cases h : lt a b with
  | true => exact put_put va vb h l
  | false => exact (put_put vb va (lt_of (by rw [h]; simp) hab) l).symm
theorem put_there (t : ByteArray) (v : Int) : ∀ l : List En, thereR t (putR t v l) = true
  | [] => by simp [putR, thereR, lt_irr]
  | e :: l => by
    unfold putR
    by_cases h : lt e.1 t = true
    · rw [if_pos h]; unfold thereR; rw [if_pos h]; exact put_there t v l
    · rw [if_neg h]
      split <;> simp [thereR, lt_irr]
theorem put_was (t : ByteArray) (v : Int) : ∀ l : List En, wasR t (putR t v l) = v
  | [] => by simp [putR, wasR, lt_irr]
  | e :: l => by
    unfold putR
    by_cases h : lt e.1 t = true
    · rw [if_pos h]; unfold wasR; rw [if_pos h]; exact put_was t v l
    · rw [if_neg h]
      split <;> simp [wasR, lt_irr]
theorem put_drop (t : ByteArray) (v : Int) : ∀ l : List En, dropR t (putR t v l) = dropR t l
  | [] => by simp [putR, dropR, lt_irr]
  | e :: l => by
    unfold putR
    by_cases h : lt e.1 t = true
    · rw [if_pos h]
      simp only [dropR, if_pos h, put_drop t v l]
    · rw [if_neg h]
      by_cases q : e.1 = t
      · simp [dropR, lt_irr, q]
      · have h' : lt e.1 t = false := by simpa using h
        simp [dropR, lt_irr, q, h']
theorem putE_len (t : ByteArray) (v : Int) (l : List En) : (putE t v l).length ≤ l.length + 1 := by
  have := seek_leN t l
  unfold putE
  rw [List.length_append, List.length_cons, List.length_take, List.length_drop]
  split <;> omega
theorem dropE_len (t : ByteArray) (l : List En) : (dropE t l).length ≤ l.length := by
  have := seek_leN t l
  unfold dropE
  rw [List.length_append, List.length_take, List.length_drop]
  split <;> omega
end Go.Proofs.YtbfmklaakjepaaaDoor
