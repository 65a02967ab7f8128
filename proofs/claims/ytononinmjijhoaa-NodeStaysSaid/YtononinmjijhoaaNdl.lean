/-
  Children as two lists beside each other: put, taken out, looked up; no condition.
-/
import Derived.Test.YtononinmjijhoaaNde
namespace Go.Proofs.Ytononinmjijhoaa
open Go.RowKit Go.WideShapes Go.ChangeShapes
set_option linter.all false
def putK (b kid : Int) : List Int → List Int → List Int
  | [], _ => [kid]
  | x :: l, [] => [kid]
  | x :: l, y :: m => if x < b then y :: putK b kid l m else if x = b then kid :: m else kid :: y :: m
theorem putK_is (b kid : Int) : ∀ xs ys : List Int, xs.length = ys.length → putK b kid xs ys = if isN b xs = true then ys.set (lowN b xs) kid else ys.take (lowN b xs) ++ kid :: ys.drop (lowN b xs)
  | [], [], _ => by simp [putK, isN, lowN]
  | [], y :: m, h => by simp at h
  | x :: l, [], h => by simp at h
  | x :: l, y :: m, h => by
    have ih := putK_is b kid l m (by simpa using h)
    unfold putK
    by_cases h0 : x < b
    · have e1 : lowN b (x :: l) = lowN b l + 1 := by rw [lowN, if_pos h0]
      have e2 : isN b (x :: l) = isN b l := by unfold isN; rw [e1]; simp
      rw [if_pos h0, ih, e2, e1]
      split <;> simp
    · have e1 : lowN b (x :: l) = 0 := by rw [lowN, if_neg h0]
      rw [if_neg h0, e1]
      by_cases h2 : x = b
      · rw [if_pos h2, if_pos (by unfold isN; rw [e1]; simp [h2])]; simp
      · rw [if_neg h2, if_neg (by unfold isN; rw [e1]; simp [h2])]; simp
theorem putK_len (b kid : Int) : ∀ xs ys : List Int, xs.length = ys.length → (putK b kid xs ys).length = (putL b xs).length
  | [], [], _ => by simp [putK, putL]
  | [], y :: m, h => by simp at h
  | x :: l, [], h => by simp at h
  | x :: l, y :: m, h => by
    have ih := putK_len b kid l m (by simpa using h)
    have h' : l.length = m.length := by simpa using h
    unfold putK putL
    split
    · simp [ih]
    · split <;> simp [h']
def dropL (b : Int) : List Int → List Int
  | [] => []
  | x :: l => if x < b then x :: dropL b l else l
def dropK (b : Int) : List Int → List Int → List Int
  | [], m => m
  | x :: l, [] => []
  | x :: l, y :: m => if x < b then y :: dropK b l m else m
theorem dropL_is (b : Int) : ∀ xs : List Int, isN b xs = true → xs.take (lowN b xs) ++ xs.drop (lowN b xs + 1) = dropL b xs
  | [], h => by simp [isN, lowN] at h
  | x :: l, h => by
    unfold dropL
    by_cases h0 : x < b
    · have e1 : lowN b (x :: l) = lowN b l + 1 := by rw [lowN, if_pos h0]
      have e2 : isN b (x :: l) = isN b l := by unfold isN; rw [e1]; simp
      rw [e2] at h
      rw [if_pos h0, e1, ← dropL_is b l h]; simp
    · have e1 : lowN b (x :: l) = 0 := by rw [lowN, if_neg h0]
      rw [if_neg h0, e1]; simp
theorem dropK_is (b : Int) : ∀ xs ys : List Int, xs.length = ys.length → isN b xs = true → ys.take (lowN b xs) ++ ys.drop (lowN b xs + 1) = dropK b xs ys
  | [], _, _, h => by simp [isN, lowN] at h
  | x :: l, [], h, _ => by simp at h
  | x :: l, y :: m, h', h => by
    unfold dropK
    by_cases h0 : x < b
    · have e1 : lowN b (x :: l) = lowN b l + 1 := by rw [lowN, if_pos h0]
      have e2 : isN b (x :: l) = isN b l := by unfold isN; rw [e1]; simp
      rw [e2] at h
      rw [if_pos h0, e1, ← dropK_is b l m (by simpa using h') h]; simp
    · have e1 : lowN b (x :: l) = 0 := by rw [lowN, if_neg h0]
      rw [if_neg h0, e1]; simp
theorem isN_cons (b x : Int) (l : List Int) : isN b (x :: l) = if x < b then isN b l else decide (x = b) := by
  by_cases h0 : x < b
  · rw [if_pos h0]; unfold isN; rw [lowN, if_pos h0]; simp
  · rw [if_neg h0]; unfold isN; rw [lowN, if_neg h0]; simp
theorem isN_put (b : Int) : ∀ xs : List Int, isN b (putL b xs) = true
  | [] => by simp [putL, isN, lowN]
  | x :: l => by
    unfold putL
    split
    · rename_i h; rw [isN_cons, if_pos h]; exact isN_put b l
    · split
      · rename_i h1 h2; rw [isN_cons, if_neg h1]; simpa using h2
      · rw [isN_cons, if_neg (by omega)]; simp
theorem drop_putL (b : Int) : ∀ xs : List Int, isN b xs = false → dropL b (putL b xs) = xs
  | [], _ => by simp [putL, dropL]
  | x :: l, h => by
    rw [isN_cons] at h
    unfold putL
    split
    · rename_i h0; rw [if_pos h0] at h; rw [dropL, if_pos h0, drop_putL b l h]
    · rename_i h0
      rw [if_neg h0] at h
      have : ¬ x = b := by simpa using h
      rw [if_neg this, dropL, if_neg (by omega)]
theorem drop_putK (b kid : Int) : ∀ xs ys : List Int, xs.length = ys.length → isN b xs = false → dropK b (putL b xs) (putK b kid xs ys) = ys
  | [], [], _, _ => by simp [putL, putK, dropK]
  | [], y :: m, h, _ => by simp at h
  | x :: l, [], h, _ => by simp at h
  | x :: l, y :: m, h', h => by
    rw [isN_cons] at h
    unfold putL putK
    by_cases h0 : x < b
    · rw [if_pos h0] at h
      rw [if_pos h0, if_pos h0, dropK, if_pos h0, drop_putK b kid l m (by simpa using h') h]
    · rw [if_neg h0] at h
      have : ¬ x = b := by simpa using h
      rw [if_neg h0, if_neg h0, if_neg this, if_neg this, dropK, if_neg (by omega)]
theorem putL_head {b : Int} {l : List Int} (h : ∀ z ∈ l, b < z) : putL b l = b :: l := by
  cases l with
  | nil => rfl
  | cons x l => have := h x (by simp); unfold putL; rw [if_neg (by omega), if_neg (by omega)]
theorem putK_head {b kid : Int} {l m : List Int} (hl : l.length = m.length) (h : ∀ z ∈ l, b < z) : putK b kid l m = kid :: m := by
  cases l with
  | nil => cases m with
    | nil => rfl
    | cons => simp at hl
  | cons x l => cases m with
    | nil => simp at hl
    | cons y m => have := h x (by simp); unfold putK; rw [if_neg (by omega), if_neg (by omega)]
/-- What is looked up. -/
def look (c : Int) : List Int → List Int → Option Int
  | [], _ => none
  | x :: l, [] => none
  | x :: l, y :: m => if x = c then some y else look c l m
theorem look_pos (c : Int) : ∀ xs ys : List Int, xs.length = ys.length → (fndB c xs = (look c xs ys).isSome ∧ fndV c xs ys = (look c xs ys).getD 0)
  | [], [], _ => by simp [fndB, fndV, look, posN]
  | [], y :: m, h => by simp at h
  | x :: l, [], h => by simp at h
  | x :: l, y :: m, h => by
    have ih := look_pos c l m (by simpa using h)
    unfold look
    by_cases h0 : x = c
    · rw [if_pos h0]; simp [fndB, fndV, posN, h0]
    · rw [if_neg h0, ← ih.1, ← ih.2]
      have e : posN c (x :: l) = posN c l + 1 := by rw [posN, if_neg h0]
      unfold fndB fndV
      rw [e]
      simp
theorem look_put (b kid c : Int) : ∀ xs ys : List Int, xs.length = ys.length → look c (putL b xs) (putK b kid xs ys) = if c = b then some kid else look c xs ys
  | [], [], _ => by
    by_cases h : b = c
    · simp [putL, putK, look, h]
    · have h' : ¬ c = b := fun e => h e.symm
      simp [putL, putK, look, h, h']
  | [], y :: m, h => by simp at h
  | x :: l, [], h => by simp at h
  | x :: l, y :: m, h => by
    have ih := look_put b kid c l m (by simpa using h)
    unfold putL putK
    by_cases h0 : x < b
    · rw [if_pos h0, if_pos h0, look, ih, look]
      by_cases h1 : x = c
      · rw [if_pos h1, if_pos h1, if_neg (by omega)]
      · rw [if_neg h1, if_neg h1]
    · rw [if_neg h0, if_neg h0]
      by_cases h2 : x = b
      · rw [if_pos h2, if_pos h2, look, look]
        by_cases h1 : c = b
        · rw [if_pos h1, if_pos (by omega)]
        · simp only [if_neg h1, if_neg (show ¬ x = c by omega)]
      · rw [if_neg h2, if_neg h2, look]
        by_cases h1 : c = b
        · rw [if_pos h1, if_pos h1.symm]
        · rw [if_neg h1, if_neg (fun e => h1 e.symm)]
/-- Taken out and put back. -/
theorem back_putL (b : Int) : ∀ xs : List Int, Pw xs → isN b xs = true → putL b (dropL b (putL b xs)) = xs
  | [], _, h => by simp [isN, lowN] at h
  | x :: l, hp, h => by
    have h0 := List.pairwise_cons.1 hp
    rw [isN_cons] at h
    by_cases hx : x < b
    · rw [if_pos hx] at h
      have e : putL b (x :: l) = x :: putL b l := by rw [putL, if_pos hx]
      rw [e, dropL, if_pos hx, putL, if_pos hx, back_putL b l h0.2 h]
    · rw [if_neg hx] at h
      have hxb : x = b := by simpa using h
      have e : putL b (x :: l) = x :: l := by rw [putL, if_neg hx, if_pos hxb]
      rw [e, dropL, if_neg hx, putL_head (fun z hz => by have := h0.1 z hz; omega), hxb]
theorem back_putK (b kid : Int) : ∀ xs ys : List Int, xs.length = ys.length → Pw xs → isN b xs = true → putK b ((look b xs ys).getD 0) (dropL b (putL b xs)) (dropK b (putL b xs) (putK b kid xs ys)) = ys
  | [], _, _, _, h => by simp [isN, lowN] at h
  | x :: l, [], h, _, _ => by simp at h
  | x :: l, y :: m, hl, hp, h => by
    have h0 := List.pairwise_cons.1 hp
    rw [isN_cons] at h
    by_cases hx : x < b
    · rw [if_pos hx] at h
      have ih := back_putK b kid l m (by simpa using hl) h0.2 h
      have e : putL b (x :: l) = x :: putL b l := by rw [putL, if_pos hx]
      have e2 : putK b kid (x :: l) (y :: m) = y :: putK b kid l m := by rw [putK, if_pos hx]
      have e3 : look b (x :: l) (y :: m) = look b l m := by rw [look, if_neg (by omega)]
      rw [e, e2, e3, dropL, if_pos hx, dropK, if_pos hx, putK, if_pos hx, ih]
    · rw [if_neg hx] at h
      have hxb : x = b := by simpa using h
      have e : putL b (x :: l) = x :: l := by rw [putL, if_neg hx, if_pos hxb]
      have e2 : putK b kid (x :: l) (y :: m) = kid :: m := by rw [putK, if_neg hx, if_pos hxb]
      have e3 : look b (x :: l) (y :: m) = some y := by rw [look, if_pos hxb]
      rw [e, e2, e3, dropL, if_neg hx, dropK, if_neg hx, putK_head (by simpa using hl) (fun z hz => by have := h0.1 z hz; omega)]
      rfl
theorem dropL_pw (b : Int) : ∀ xs : List Int, Pw xs → Pw (dropL b xs)
  | [], _ => by simp [dropL, Pw]
  | x :: l, h => by
    have h0 := List.pairwise_cons.1 h
    unfold dropL
    split
    · refine List.pairwise_cons.2 ⟨fun z hz => ?_, dropL_pw b l h0.2⟩
      have : ∀ l : List Int, ∀ z ∈ dropL b l, z ∈ l := by
        intro l
        induction l with
        | nil => intro z hz; exact hz
        | cons a l ih => intro z hz; unfold dropL at hz; split at hz
                         · rcases List.mem_cons.1 hz with rfl | hz
                           · simp
                           · exact List.mem_cons_of_mem _ (ih z hz)
                         · exact List.mem_cons_of_mem _ hz
      exact h0.1 z (this l z hz)
    · exact h0.2
def IsRef (y : Int) : Prop := ∃ s g l, y = refV s g l ∧ 0 ≤ s ∧ s < 1024 ∧ 1 ≤ g ∧ g ≤ 1073741824
theorem refs_mem {ys : List Int} : Refs ys ↔ ∀ y ∈ ys, IsRef y := by
  constructor
  · intro h y hy
    obtain ⟨i, hi, rfl⟩ := List.mem_iff_getElem.1 hy
    have := h i hi
    rw [List.getD_eq_getElem?_getD, List.getElem?_eq_getElem hi] at this
    exact this
  · intro h i hi
    have := h ys[i] (List.getElem_mem hi)
    rw [List.getD_eq_getElem?_getD, List.getElem?_eq_getElem hi]
    exact this
theorem putK_mem (b kid : Int) : ∀ xs ys : List Int, ∀ y ∈ putK b kid xs ys, y = kid ∨ y ∈ ys
  | [], ys, y, h => by simp [putK] at h; exact .inl h
  | x :: l, [], y, h => by simp [putK] at h; exact .inl h
  | x :: l, z :: m, y, h => by
    unfold putK at h
    split at h
    · rcases List.mem_cons.1 h with rfl | h
      · simp
      · rcases putK_mem b kid l m y h with e | e
        · exact .inl e
        · exact .inr (List.mem_cons_of_mem _ e)
    · split at h
      · rcases List.mem_cons.1 h with e | e
        · exact .inl e
        · exact .inr (List.mem_cons_of_mem _ e)
      · rcases List.mem_cons.1 h with e | e
        · exact .inl e
        · exact .inr e
theorem dropK_mem (b : Int) : ∀ xs ys : List Int, ∀ y ∈ dropK b xs ys, y ∈ ys
  | [], ys, y, h => by simpa [dropK] using h
  | x :: l, [], y, h => by simp [dropK] at h
  | x :: l, z :: m, y, h => by
    unfold dropK at h
    split at h
    · rcases List.mem_cons.1 h with rfl | h
      · simp
      · exact List.mem_cons_of_mem _ (dropK_mem b l m y h)
    · exact List.mem_cons_of_mem _ h
theorem look_mem (c : Int) : ∀ xs ys : List Int, ∀ y, look c xs ys = some y → y ∈ ys
  | [], _, y, h => by simp [look] at h
  | x :: l, [], y, h => by simp [look] at h
  | x :: l, z :: m, y, h => by
    unfold look at h
    split at h
    · injection h with h; simp [h]
    · exact List.mem_cons_of_mem _ (look_mem c l m y h)
theorem dropL_len (b : Int) : ∀ xs : List Int, isN b xs = true → (dropL b xs).length + 1 = xs.length
  | [], h => by simp [isN, lowN] at h
  | x :: l, h => by
    rw [isN_cons] at h
    unfold dropL
    split
    · rename_i h0; rw [if_pos h0] at h; simpa using dropL_len b l h
    · simp
end Go.Proofs.Ytononinmjijhoaa
