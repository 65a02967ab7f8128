/-
  Posting lists as lists of blocks of ids: seeking, adding, removing, cutting into blocks; plain mathematics, no condition.
-/
import Derived.Test.YtokjeglhmmijfaaBkP
namespace Go.Proofs.Ytokjeglhmmijfaa
set_option linter.all false
/-- A list of blocks that may be. -/
structure RL (L : List (List Nat)) : Prop where
  asc : ascB 0 L.flatten = true
  len : ∀ b ∈ L, 1 ≤ b.length ∧ b.length ≤ 16
theorem RL.nil : RL [] := ⟨rfl, by simp⟩
theorem asc_mono : ∀ {l : List Nat} {p q : Nat}, ascB q l = true → p ≤ q → ascB p l = true
  | [], _, _, _, _ => rfl
  | x :: r, p, q, h, hpq => by
    obtain ⟨h1, h2, h3⟩ := ascB_cons.1 h
    exact ascB_cons.2 ⟨by omega, h2, h3⟩
theorem asc_ge : ∀ {l : List Nat} {p : Nat}, ascB p l = true → ∀ x ∈ l, p ≤ x ∧ x ≤ 1073741824
  | [], _, _, x, hx => by simp at hx
  | y :: r, p, h, x, hx => by
    obtain ⟨h1, h2, h3⟩ := ascB_cons.1 h
    rcases List.mem_cons.1 hx with rfl | hx
    · exact ⟨h1, h2⟩
    · have := asc_ge h3 x hx; omega
theorem asc_app : ∀ {a b : List Nat} {p : Nat}, ascB p (a ++ b) = true ↔ ascB p a = true ∧ ascB p b = true ∧ ∀ x ∈ a, ∀ y ∈ b, x < y
  | [], b, p => by simp [ascB]
  | z :: a, b, p => by
    rw [List.cons_append, ascB_cons, ascB_cons, asc_app (a := a)]
    constructor
    · rintro ⟨h1, h2, h3, h4, h5⟩
      refine ⟨⟨h1, h2, h3⟩, asc_mono h4 (by omega), fun x hx y hy => ?_⟩
      rcases List.mem_cons.1 hx with rfl | hx
      · have := asc_ge h4 y hy; omega
      · exact h5 x hx y hy
    · rintro ⟨⟨h1, h2, h3⟩, h4, h5⟩
      refine ⟨h1, h2, h3, ?_, fun x hx y hy => h5 x (List.mem_cons_of_mem _ hx) y hy⟩
      have hb : ∀ y ∈ b, z < y := fun y hy => h5 z (List.mem_cons_self ..) y hy
      cases b with
      | nil => rfl
      | cons y r =>
        obtain ⟨g1, g2, g3⟩ := ascB_cons.1 h4
        exact ascB_cons.2 ⟨hb y (List.mem_cons_self ..), g2, g3⟩
/-- One more, between those that are less and those that are greater. -/
theorem asc_ins {a b : List Nat} {p x : Nat} (h : ascB p (a ++ b) = true) (hp : p ≤ x) (hx : x ≤ 1073741824) (ha : ∀ y ∈ a, y < x) (hb : ∀ y ∈ b, x < y) : ascB p (a ++ x :: b) = true := by
  obtain ⟨h1, h2, h3⟩ := asc_app.1 h
  refine asc_app.2 ⟨h1, ascB_cons.2 ⟨hp, hx, ?_⟩, fun y hy z hz => ?_⟩
  · cases b with
    | nil => rfl
    | cons y r =>
      obtain ⟨g1, g2, g3⟩ := ascB_cons.1 h2
      exact ascB_cons.2 ⟨hb y (List.mem_cons_self ..), g2, g3⟩
  · rcases List.mem_cons.1 hz with rfl | hz
    · exact ha y hy
    · exact h3 y hy z hz
theorem asc_del {a b : List Nat} {p x : Nat} (h : ascB p (a ++ x :: b) = true) : ascB p (a ++ b) = true := by
  obtain ⟨h1, h2, h3⟩ := asc_app.1 h
  obtain ⟨g1, g2, g3⟩ := ascB_cons.1 h2
  exact asc_app.2 ⟨h1, asc_mono g3 (by omega), fun y hy z hz => h3 y hy z (List.mem_cons_of_mem _ hz)⟩
/-- How many lead that are less. -/
def lowI (x : Int) : List Nat → Nat
  | [] => 0
  | y :: r => if (y : Int) < x then lowI x r + 1 else 0
theorem lowI_le (x : Int) : ∀ l, lowI x l ≤ l.length
  | [] => Nat.le_refl _
  | y :: r => by
    rw [lowI]; have := lowI_le x r
    split <;> simp <;> omega
theorem lowI_iff {x : Int} : ∀ {l : List Nat} {p i : Nat}, ascB p l = true → i < l.length → (i < lowI x l ↔ ((l.getD i 0 : Nat) : Int) < x)
  | [], _, i, _, hi => by simp at hi
  | y :: r, p, 0, h, _ => by
    rw [lowI]
    split <;> simp_all
  | y :: r, p, i + 1, h, hi => by
    obtain ⟨h1, h2, h3⟩ := ascB_cons.1 h
    have hi' : i < r.length := by simpa using hi
    have ih := lowI_iff (x := x) h3 hi'
    rw [lowI, List.getD_cons_succ]
    split
    · rw [← ih]; omega
    · rename_i hy
      have : r.getD i 0 ∈ r := by rw [List.getD_eq_getElem?_getD, List.getElem?_eq_getElem hi']; exact List.getElem_mem hi'
      have := asc_ge h3 _ this
      constructor
      · intro h'; omega
      · intro h'; omega
theorem low_take {x : Int} : ∀ {l : List Nat}, ∀ y ∈ l.take (lowI x l), (y : Int) < x
  | [], y, hy => by simp at hy
  | z :: r, y, hy => by
    rw [lowI] at hy
    split at hy
    · rename_i hz
      rw [List.take_succ_cons] at hy
      rcases List.mem_cons.1 hy with rfl | hy
      · exact hz
      · exact low_take y hy
    · simp at hy
theorem low_drop {x : Int} : ∀ {l : List Nat} {p : Nat}, ascB p l = true → ∀ y ∈ l.drop (lowI x l), x ≤ (y : Int)
  | [], _, _, y, hy => by simp at hy
  | z :: r, p, h, y, hy => by
    obtain ⟨h1, h2, h3⟩ := ascB_cons.1 h
    rw [lowI] at hy
    split at hy
    · rw [List.drop_succ_cons] at hy
      exact low_drop h3 y hy
    · rename_i hz
      rw [List.drop_zero] at hy
      rcases List.mem_cons.1 hy with rfl | hy
      · omega
      · have := asc_ge h3 y hy; omega
/-- The first that isn't less. -/
def fndI (x : Int) : List Nat → Option Nat
  | [] => none
  | y :: r => if (y : Int) < x then fndI x r else some y
theorem fnd_low (x : Int) : ∀ l : List Nat, fndI x l = if lowI x l < l.length then some (l.getD (lowI x l) 0) else none
  | [] => rfl
  | y :: r => by
    rw [fndI, lowI, fnd_low x r]
    split
    · simp
    · simp
theorem fnd_app (x : Int) : ∀ a b : List Nat, fndI x (a ++ b) = (fndI x a).or (fndI x b)
  | [], b => by simp [fndI]
  | y :: r, b => by
    rw [List.cons_append, fndI, fndI, fnd_app x r b]
    split <;> simp
theorem fnd_none {x : Int} {l : List Nat} (h : ∀ y ∈ l, (y : Int) < x) : fndI x l = none := by
  induction l with
  | nil => rfl
  | cons y r ih =>
    rw [fndI, if_pos (h y (List.mem_cons_self ..)), ih fun z hz => h z (List.mem_cons_of_mem _ hz)]
theorem fnd_mem {x : Int} {l : List Nat} {p y : Nat} (ha : ascB p l = true) : fndI x l = some y → y ∈ l ∧ x ≤ (y : Int) ∧ ∀ z ∈ l, x ≤ (z : Int) → y ≤ z := by
  induction l generalizing p with
  | nil => intro h; cases h
  | cons z r ih =>
    obtain ⟨h1, h2, h3⟩ := ascB_cons.1 ha
    intro h
    rw [fndI] at h
    split at h
    · rename_i hz
      obtain ⟨a, b, c⟩ := ih h3 h
      refine ⟨List.mem_cons_of_mem _ a, b, fun u hu hxu => ?_⟩
      rcases List.mem_cons.1 hu with rfl | hu
      · omega
      · exact c u hu hxu
    · rename_i hz
      injection h with h; subst h
      refine ⟨List.mem_cons_self .., by omega, fun u hu _ => ?_⟩
      rcases List.mem_cons.1 hu with rfl | hu
      · exact Nat.le_refl _
      · have := asc_ge h3 u hu; omega
theorem fnd_some {x : Int} {l : List Nat} (h : fndI x l = none) : ∀ y ∈ l, (y : Int) < x := by
  induction l with
  | nil => intro y hy; simp at hy
  | cons z r ih =>
    rw [fndI] at h
    split at h
    · intro y hy
      rcases List.mem_cons.1 hy with rfl | hy
      · assumption
      · exact ih h y hy
    · cases h
theorem fnd_has {x : Nat} {l : List Nat} {p : Nat} (ha : ascB p l = true) : fndI (x : Int) l = some x ↔ x ∈ l := by
  constructor
  · exact fun h => (fnd_mem ha h).1
  · intro h
    cases hf : fndI (x : Int) l with
    | none => have := fnd_some hf x h; omega
    | some y =>
      obtain ⟨a, b, c⟩ := fnd_mem ha hf
      have := c x h (by omega)
      congr 1; omega
/-- How many blocks lead that begin with no more. -/
def cntL (x : Int) : List (List Nat) → Nat
  | [] => 0
  | b :: r => if ((b.headD 0 : Nat) : Int) ≤ x then cntL x r + 1 else 0
theorem cntL_le (x : Int) : ∀ L, cntL x L ≤ L.length
  | [] => Nat.le_refl _
  | b :: r => by
    rw [cntL]; have := cntL_le x r
    split <;> simp <;> omega
theorem RL.tail {b : List Nat} {r : List (List Nat)} (h : RL (b :: r)) : RL r :=
  ⟨(asc_app.1 (by simpa using h.asc : ascB 0 (b ++ r.flatten) = true)).2.1, fun c hc => h.len c (List.mem_cons_of_mem _ hc)⟩
theorem RL.drop {L : List (List Nat)} (h : RL L) : ∀ k, RL (L.drop k)
  | 0 => h
  | k + 1 => by
    cases L with
    | nil => exact h
    | cons b r => exact (h.tail).drop k
theorem RL.take {L : List (List Nat)} (h : RL L) (k : Nat) : RL (L.take k) := by
  refine ⟨?_, fun b hb => h.len b (List.mem_of_mem_take hb)⟩
  have := h.asc
  rw [← List.take_append_drop k L, List.flatten_append] at this
  exact (asc_app.1 this).1
theorem head_mem {b : List Nat} (h : 1 ≤ b.length) : b.headD 0 ∈ b := by
  cases b with
  | nil => simp at h
  | cons x r => simp
theorem RL.block {L : List (List Nat)} (h : RL L) {b : List Nat} (hb : b ∈ L) : ascB 0 b = true := by
  induction L with
  | nil => simp at hb
  | cons c r ih =>
    rcases List.mem_cons.1 hb with rfl | hb
    · exact (asc_app.1 (by simpa using h.asc : ascB 0 (b ++ r.flatten) = true)).1
    · exact ih h.tail hb
theorem RL.right {L : List (List Nat)} (h : RL L) {b : List Nat} (hb : b ∈ L) : rightN b = true := by
  unfold rightN
  rw [Bool.and_eq_true, decide_eq_true_eq]
  exact ⟨h.len b hb, h.block hb⟩
theorem cntL_iff {x : Int} : ∀ {L : List (List Nat)} {i : Nat}, RL L → i < L.length → (i < cntL x L ↔ (((L.getD i []).headD 0 : Nat) : Int) ≤ x)
  | [], i, _, hi => by simp at hi
  | b :: r, 0, h, _ => by
    rw [cntL]
    split <;> simp_all
  | b :: r, i + 1, h, hi => by
    have hi' : i < r.length := by simpa using hi
    have ih := cntL_iff (x := x) h.tail hi'
    rw [cntL, List.getD_cons_succ]
    split
    · rw [← ih]; omega
    · rename_i hy
      have hm : r.getD i [] ∈ r := by rw [List.getD_eq_getElem?_getD, List.getElem?_eq_getElem hi']; exact List.getElem_mem hi'
      have hlt := (asc_app.1 (by simpa using h.asc : ascB 0 (b ++ r.flatten) = true)).2.2 (b.headD 0) (head_mem (h.len b (List.mem_cons_self ..)).1) ((r.getD i []).headD 0) (List.mem_flatten.2 ⟨_, hm, head_mem (h.len _ (List.mem_cons_of_mem _ hm)).1⟩)
      constructor
      · intro h'; omega
      · intro h'; omega
/-- The block of an id. -/
def kOf (x : Int) (L : List (List Nat)) : Nat := cntL x L - 1
theorem kOf_lt {x : Int} {L : List (List Nat)} (h : L ≠ []) : kOf x L < L.length := by
  have h1 := cntL_le x L
  have : 0 < L.length := List.length_pos_iff.2 h
  unfold kOf; omega
theorem cnt_head {x : Int} {b : List Nat} {r : List (List Nat)} (h : RL (b :: r)) : cntL x (b :: r) = 0 ↔ x < ((b.headD 0 : Nat) : Int) := by
  rw [cntL]
  split <;> constructor <;> intro _ <;> omega
/-- All ahead of the block of an id are less, all behind it greater. -/
theorem kOf_before {x : Int} : ∀ {L : List (List Nat)}, RL L → ∀ y ∈ (L.take (kOf x L)).flatten, (y : Int) < x := by
  intro L h y hy
  rw [List.mem_flatten] at hy
  obtain ⟨b, hb, hyb⟩ := hy
  obtain ⟨i, hi, rfl⟩ := List.mem_iff_getElem.1 hb
  rw [List.length_take] at hi
  have hk : kOf x L < L.length := by
    rcases Nat.lt_or_ge (kOf x L) L.length with h' | h'
    · exact h'
    · have := cntL_le x L; unfold kOf at *; omega
  have hc : kOf x L < cntL x L := by unfold kOf at *; omega
  have hk2 := (cntL_iff (x := x) h hk).1 hc
  rw [List.getElem_take] at hyb
  -- y stands in a block ahead of block k
  have e : L = L.take (kOf x L) ++ L.drop (kOf x L) := (List.take_append_drop _ _).symm
  have ha := h.asc
  rw [e, List.flatten_append] at ha
  have hlt := (asc_app.1 ha).2.2 y (List.mem_flatten.2 ⟨_, hb, by rw [List.getElem_take]; exact hyb⟩) ((L.getD (kOf x L) []).headD 0) (by
    rw [List.mem_flatten]
    refine ⟨L.getD (kOf x L) [], ?_, ?_⟩
    · rw [List.drop_eq_getElem_cons hk, List.getD_eq_getElem?_getD, List.getElem?_eq_getElem hk]; exact List.mem_cons_self ..
    · apply head_mem
      exact (h.len _ (by rw [List.getD_eq_getElem?_getD, List.getElem?_eq_getElem hk]; exact List.getElem_mem hk)).1)
  omega
theorem kOf_behind {x : Int} : ∀ {L : List (List Nat)}, RL L → ∀ y ∈ (L.drop (kOf x L + 1)).flatten, x < (y : Int) := by
  intro L h y hy
  rw [List.mem_flatten] at hy
  obtain ⟨b, hb, hyb⟩ := hy
  obtain ⟨i, hi, rfl⟩ := List.mem_iff_getElem.1 hb
  rw [List.length_drop] at hi
  rw [List.getElem_drop] at hyb
  have hj : kOf x L + 1 + i < L.length := by omega
  have hn : ¬ kOf x L + 1 + i < cntL x L := by unfold kOf; omega
  rw [cntL_iff (x := x) h hj] at hn
  have hg : L.getD (kOf x L + 1 + i) [] = L[kOf x L + 1 + i] := by rw [List.getD_eq_getElem?_getD, List.getElem?_eq_getElem hj]; rfl
  rw [hg] at hn
  have hb2 := h.block (List.getElem_mem hj)
  have : ∀ (b : List Nat), ascB 0 b = true → y ∈ b → b.headD 0 ≤ y := by
    intro b hb hy
    cases b with
    | nil => simp at hy
    | cons z r =>
      obtain ⟨h1, h2, h3⟩ := ascB_cons.1 hb
      rcases List.mem_cons.1 hy with rfl | hy
      · simp
      · have := asc_ge h3 y hy; simp; omega
  have := this _ hb2 hyb
  omega
theorem RL.split {L : List (List Nat)} {k : Nat} (hk : k < L.length) : L = L.take k ++ (L.getD k [] :: L.drop (k + 1)) := by
  have : L.getD k [] = L[k] := by rw [List.getD_eq_getElem?_getD, List.getElem?_eq_getElem hk]; rfl
  rw [this, ← List.drop_eq_getElem_cons hk, List.take_append_drop]
/-- What Seek goes through: from the block of the id on. -/
theorem seek_from {x : Int} {L : List (List Nat)} (h : RL L) : fndI x L.flatten = fndI x (L.drop (kOf x L)).flatten := by
  rw [← List.take_append_drop (kOf x L) L, List.flatten_append, fnd_app, fnd_none (kOf_before h)]
  simp
/-- Adding. -/
def insB (x : Nat) (l : List Nat) : List Nat := l.take (lowI x l) ++ x :: l.drop (lowI x l)
def addL (x : Nat) (L : List (List Nat)) : List (List Nat) :=
  if L = [] then [[x]]
  else
    let k := kOf x L
    let b := insB x (L.getD k [])
    if b.length ≤ 16 then L.take k ++ [b] ++ L.drop (k + 1)
    else L.take k ++ [b.take ((b.length + 1) / 2), b.drop ((b.length + 1) / 2)] ++ L.drop (k + 1)
theorem insB_len (x : Nat) (l : List Nat) : (insB x l).length = l.length + 1 := by
  unfold insB
  have := lowI_le x l
  simp; omega
/-- What the ids are, behind an adding. -/
theorem add_flat {x : Nat} {L : List (List Nat)} : (addL x L).flatten = if L = [] then [x] else (L.take (kOf x L)).flatten ++ insB x (L.getD (kOf x L) []) ++ (L.drop (kOf x L + 1)).flatten := by
  unfold addL
  split
  · rfl
  · simp only
    split
    · simp
    · simp only [List.flatten_append, List.flatten_cons, List.flatten_nil, List.append_nil, List.append_assoc]
      rw [← List.append_assoc (List.take _ _) (List.drop _ _), List.take_append_drop]
theorem add_parts {x : Nat} {L : List (List Nat)} (h : RL L) (hx : x ≤ 1073741824) (hn : ¬ x ∈ L.flatten) :
    ∃ a b, L.flatten = a ++ b ∧ (addL x L).flatten = a ++ x :: b ∧ (∀ y ∈ a, y < x) ∧ (∀ y ∈ b, x < y) := by
  rw [add_flat]
  by_cases hL : L = []
  · subst hL
    exact ⟨[], [], rfl, rfl, by simp, by simp⟩
  · rw [if_neg hL]
    have hk := kOf_lt (x := x) hL
    have e := RL.split hk
    have hm : L.getD (kOf x L) [] ∈ L := by rw [List.getD_eq_getElem?_getD, List.getElem?_eq_getElem hk]; exact List.getElem_mem hk
    have hf : L.flatten = (L.take (kOf x L)).flatten ++ (L.getD (kOf x L) [] ++ (L.drop (kOf x L + 1)).flatten) := by
      conv => lhs; rw [e]
      simp
    generalize hB : L.getD (kOf x L) [] = B at *
    have hb := h.block hm
    refine ⟨(L.take (kOf x L)).flatten ++ B.take (lowI x B), B.drop (lowI x B) ++ (L.drop (kOf x L + 1)).flatten, ?_, ?_, ?_, ?_⟩
    · rw [hf]; simp only [List.append_assoc]; rw [← List.append_assoc (List.take _ B), List.take_append_drop]
    · unfold insB; simp
    · intro y hy
      rcases List.mem_append.1 hy with hy | hy
      · have := kOf_before h y hy; omega
      · have := low_take y hy; omega
    · intro y hy
      rcases List.mem_append.1 hy with hy | hy
      · have h1 := low_drop hb y hy
        have : y ≠ x := by
          rintro rfl
          apply hn
          rw [hf]
          exact List.mem_append_right _ (List.mem_append_left _ (List.mem_of_mem_drop hy))
        omega
      · have := kOf_behind h y hy; omega
theorem add_right {x : Nat} {L : List (List Nat)} (h : RL L) (hx : x ≤ 1073741824) (hn : ¬ x ∈ L.flatten) : RL (addL x L) := by
  constructor
  · obtain ⟨a, b, h1, h2, h3, h4⟩ := add_parts h hx hn
    rw [h2]
    exact asc_ins (h1 ▸ h.asc) (Nat.zero_le _) hx h3 h4
  · intro b hb
    unfold addL at hb
    split at hb
    · simp at hb; subst hb; simp
    · rename_i hL
      have hk := kOf_lt (x := x) hL
      have hm : L.getD (kOf x L) [] ∈ L := by rw [List.getD_eq_getElem?_getD, List.getElem?_eq_getElem hk]; exact List.getElem_mem hk
      have hl := h.len _ hm
      have hi := insB_len x (L.getD (kOf x L) [])
      simp only at hb
      split at hb
      · rw [List.mem_append, List.mem_append, List.mem_singleton] at hb
        rcases hb with (hb | rfl) | hb
        · exact h.len b (List.mem_of_mem_take hb)
        · omega
        · exact h.len b (List.mem_of_mem_drop hb)
      · rw [List.mem_append, List.mem_append, List.mem_cons, List.mem_singleton] at hb
        rcases hb with (hb | rfl | rfl) | hb
        · exact h.len b (List.mem_of_mem_take hb)
        · rw [List.length_take]; omega
        · rw [List.length_drop]; omega
        · exact h.len b (List.mem_of_mem_drop hb)
/-- Removing. -/
def delB (x : Nat) (l : List Nat) : List Nat := l.take (lowI x l) ++ l.drop (lowI x l + 1)
def remL (x : Nat) (L : List (List Nat)) : List (List Nat) :=
  let k := kOf x L
  let b := delB x (L.getD k [])
  if b.length = 0 then L.take k ++ L.drop (k + 1)
  else if k + 1 < L.length then
    if b.length + (L.getD (k + 1) []).length ≤ 16 then L.take k ++ [b ++ L.getD (k + 1) []] ++ L.drop (k + 2)
    else L.take k ++ [b] ++ L.drop (k + 1)
  else if 0 < k then
    if (L.getD (k - 1) []).length + b.length ≤ 16 then L.take (k - 1) ++ [L.getD (k - 1) [] ++ b] ++ L.drop (k + 1)
    else L.take k ++ [b] ++ L.drop (k + 1)
  else L.take k ++ [b] ++ L.drop (k + 1)
theorem rem_flat {x : Nat} {L : List (List Nat)} (hL : L ≠ []) : (remL x L).flatten = (L.take (kOf x L)).flatten ++ delB x (L.getD (kOf x L) []) ++ (L.drop (kOf x L + 1)).flatten := by
  have hk := kOf_lt (x := x) hL
  unfold remL
  simp only
  generalize hB : delB x (L.getD (kOf x L) []) = b at *
  generalize kOf x L = k at *
  split
  · rename_i h0
    rw [List.eq_nil_of_length_eq_zero h0]; simp
  · split
    · rename_i h1
      split
      · have e : L.drop (k + 1) = L.getD (k + 1) [] :: L.drop (k + 2) := by
          rw [List.drop_eq_getElem_cons h1, List.getD_eq_getElem?_getD, List.getElem?_eq_getElem h1]; rfl
        rw [e]; simp
      · simp
    · split
      · rename_i h1 h2
        split
        · have e : L.take k = L.take (k - 1) ++ [L.getD (k - 1) []] := by
            conv => lhs; rw [show k = (k - 1) + 1 by omega]
            rw [List.take_succ_eq_append_getElem (by omega), List.getD_eq_getElem?_getD, List.getElem?_eq_getElem (by omega)]; rfl
          rw [e]; simp
        · simp
      · simp
theorem mem_block {x : Nat} {L : List (List Nat)} (h : RL L) (hm : x ∈ L.flatten) : L ≠ [] ∧ x ∈ L.getD (kOf x L) [] := by
  have hL : L ≠ [] := by rintro rfl; simp at hm
  refine ⟨hL, ?_⟩
  have hk := kOf_lt (x := x) hL
  rw [RL.split hk] at hm
  simp only [List.flatten_append, List.flatten_cons, List.mem_append] at hm
  rcases hm with hm | hm | hm
  · have := kOf_before h x hm; omega
  · exact hm
  · have := kOf_behind h x hm; omega
theorem low_at {x : Nat} : ∀ {l : List Nat} {p : Nat}, ascB p l = true → x ∈ l → lowI x l < l.length ∧ l.getD (lowI x l) 0 = x := by
  intro l p h hm
  have := (fnd_has h).2 hm
  rw [fnd_low] at this
  split at this
  · rename_i hl
    injection this with this
    exact ⟨hl, this⟩
  · cases this
theorem del_split {x : Nat} {l : List Nat} {p : Nat} (h : ascB p l = true) (hm : x ∈ l) : l = l.take (lowI x l) ++ x :: l.drop (lowI x l + 1) := by
  obtain ⟨h1, h2⟩ := low_at h hm
  have e : x = l[lowI x l] := by
    have h3 := h2
    rw [List.getD_eq_getElem?_getD, List.getElem?_eq_getElem h1] at h3
    exact h3.symm
  have t := List.take_append_drop (lowI x l) l
  rw [List.drop_eq_getElem_cons h1, ← e] at t
  exact t.symm
theorem rem_parts {x : Nat} {L : List (List Nat)} (h : RL L) (hm : x ∈ L.flatten) :
    ∃ a b, L.flatten = a ++ x :: b ∧ (remL x L).flatten = a ++ b := by
  obtain ⟨hL, hb⟩ := mem_block h hm
  have hk := kOf_lt (x := x) hL
  have hmem : L.getD (kOf x L) [] ∈ L := by rw [List.getD_eq_getElem?_getD, List.getElem?_eq_getElem hk]; exact List.getElem_mem hk
  rw [rem_flat hL]
  have e := RL.split hk
  have hd := del_split (h.block hmem) hb
  have hf : L.flatten = (L.take (kOf x L)).flatten ++ (L.getD (kOf x L) [] ++ (L.drop (kOf x L + 1)).flatten) := by
    conv => lhs; rw [e]
    simp
  refine ⟨(L.take (kOf x L)).flatten ++ (L.getD (kOf x L) []).take (lowI x (L.getD (kOf x L) [])), (L.getD (kOf x L) []).drop (lowI x (L.getD (kOf x L) []) + 1) ++ (L.drop (kOf x L + 1)).flatten, ?_, ?_⟩
  · rw [hf]
    conv => lhs; rw [hd]
    simp
  · unfold delB; simp
theorem rem_right {x : Nat} {L : List (List Nat)} (h : RL L) (hm : x ∈ L.flatten) : RL (remL x L) := by
  constructor
  · obtain ⟨a, b, h1, h2⟩ := rem_parts h hm
    rw [h2]
    exact asc_del (h1 ▸ h.asc)
  · obtain ⟨hL, hb⟩ := mem_block h hm
    have hk := kOf_lt (x := x) hL
    have hmem : L.getD (kOf x L) [] ∈ L := by rw [List.getD_eq_getElem?_getD, List.getElem?_eq_getElem hk]; exact List.getElem_mem hk
    have hl := h.len _ hmem
    have hlo := (low_at (h.block hmem) hb).1
    intro c hc
    unfold remL at hc
    simp only at hc
    have hbl : (delB x (L.getD (kOf x L) [])).length = (L.getD (kOf x L) []).length - 1 := by unfold delB; simp only [List.length_append, List.length_take, List.length_drop]; omega
    generalize delB x (L.getD (kOf x L) []) = b at *
    generalize kOf x L = k at *
    have base : ∀ i j, c ∈ L.take i ++ L.drop j → 1 ≤ c.length ∧ c.length ≤ 16 := by
      intro i j hc
      rcases List.mem_append.1 hc with hc | hc
      · exact h.len c (List.mem_of_mem_take hc)
      · exact h.len c (List.mem_of_mem_drop hc)
    have mid : ∀ i j (d : List Nat), 1 ≤ d.length ∧ d.length ≤ 16 → c ∈ L.take i ++ [d] ++ L.drop j → 1 ≤ c.length ∧ c.length ≤ 16 := by
      intro i j d hd hc
      rw [List.mem_append, List.mem_append, List.mem_singleton] at hc
      rcases hc with (hc | rfl) | hc
      · exact h.len c (List.mem_of_mem_take hc)
      · exact hd
      · exact h.len c (List.mem_of_mem_drop hc)
    split at hc
    · exact base _ _ hc
    · split at hc
      · split at hc
        · exact mid _ _ _ (by rw [List.length_append]; omega) hc
        · exact mid _ _ _ (by omega) hc
      · split at hc
        · split at hc
          · exact mid _ _ _ (by rw [List.length_append]; omega) hc
          · exact mid _ _ _ (by omega) hc
        · exact mid _ _ _ (by omega) hc
/-- By sixteens. -/
def chunkL : Nat → List Nat → List (List Nat)
  | 0, _ => []
  | k + 1, l => if l = [] then [] else l.take 16 :: chunkL k (l.drop 16)
theorem chunk_flat : ∀ (k : Nat) (l : List Nat), l.length ≤ 16 * k → (chunkL k l).flatten = l
  | 0, l, h => by rw [List.eq_nil_of_length_eq_zero (by omega : l.length = 0)]; rfl
  | k + 1, l, h => by
    rw [chunkL]
    split
    · rename_i h0; rw [h0]; rfl
    · rw [List.flatten_cons, chunk_flat k (l.drop 16) (by rw [List.length_drop]; omega), List.take_append_drop]
theorem chunk_len : ∀ (k : Nat) (l : List Nat), ∀ b ∈ chunkL k l, 1 ≤ b.length ∧ b.length ≤ 16
  | 0, l, b, hb => by simp [chunkL] at hb
  | k + 1, l, b, hb => by
    rw [chunkL] at hb
    split at hb
    · simp at hb
    · rename_i h0
      rcases List.mem_cons.1 hb with rfl | hb
      · have : 0 < l.length := List.length_pos_iff.2 h0
        rw [List.length_take]; omega
      · exact chunk_len k _ b hb
theorem chunk_right {k : Nat} {l : List Nat} (h : l.length ≤ 16 * k) (ha : ascB 0 l = true) : RL (chunkL k l) :=
  ⟨by rw [chunk_flat k l h]; exact ha, chunk_len k l⟩
theorem chunk_size : ∀ (k : Nat) (l : List Nat), l.length ≤ 16 * k → (chunkL k l).length = (l.length + 15) / 16
  | 0, l, h => by simp [chunkL]; omega
  | k + 1, l, h => by
    rw [chunkL]
    split
    · rename_i h0; rw [h0]; simp
    · rename_i h0
      have : 0 < l.length := List.length_pos_iff.2 h0
      rw [List.length_cons, chunk_size k (l.drop 16) (by rw [List.length_drop]; omega), List.length_drop]
      omega
theorem chunk_at : ∀ (k : Nat) (l : List Nat) (i : Nat), l.length ≤ 16 * k → i < (chunkL k l).length → ((chunkL k l).getD i []).length = min 16 (l.length - 16 * i)
  | 0, l, i, h, hi => by simp [chunkL] at hi
  | k + 1, l, i, h, hi => by
    rw [chunkL] at hi ⊢
    split at hi
    · simp at hi
    · rename_i h0
      rw [if_neg h0]
      cases i with
      | zero => rw [List.getD_cons_zero, List.length_take]; omega
      | succ i =>
        rw [List.getD_cons_succ, chunk_at k (l.drop 16) i (by rw [List.length_drop]; omega) (by simpa using hi), List.length_drop]
        omega
/-- Rising ids: nine in each block but the last. -/
def Rise (L : List (List Nat)) : Prop := ∀ i, i + 1 < L.length → (L.getD i []).length = 9
theorem getD_append_l {α : Type} (a b : List α) (d : α) (i : Nat) (h : i < a.length) : (a ++ b).getD i d = a.getD i d := by
  rw [List.getD_eq_getElem?_getD, List.getElem?_append_left h, List.getD_eq_getElem?_getD]
theorem getD_append_r {α : Type} (a b : List α) (d : α) (i : Nat) : (a ++ b).getD (a.length + i) d = b.getD i d := by
  rw [List.getD_eq_getElem?_getD, List.getElem?_append_right (by omega), List.getD_eq_getElem?_getD]; congr 2; omega
theorem rise_k {x : Nat} {L : List (List Nat)} (h : RL L) (hx : ∀ y ∈ L.flatten, y < x) (hL : L ≠ []) : kOf x L = L.length - 1 := by
  have h0 : 0 < L.length := List.length_pos_iff.2 hL
  have hlt : L.length - 1 < L.length := by omega
  have : L.length - 1 < cntL x L := by
    rw [cntL_iff h hlt]
    have hm : L.getD (L.length - 1) [] ∈ L := by rw [List.getD_eq_getElem?_getD, List.getElem?_eq_getElem hlt]; exact List.getElem_mem hlt
    have := hx _ (List.mem_flatten.2 ⟨_, hm, head_mem (h.len _ hm).1⟩)
    omega
  have := cntL_le x L
  unfold kOf; omega
theorem low_all {x : Int} : ∀ {l : List Nat}, (∀ y ∈ l, (y : Int) < x) → lowI x l = l.length
  | [], _ => rfl
  | y :: r, h => by
    rw [lowI, if_pos (h y (List.mem_cons_self ..)), low_all fun z hz => h z (List.mem_cons_of_mem _ hz)]; rfl
theorem rise_add {x : Nat} {L : List (List Nat)} (h : RL L) (hr : Rise L) (hx : ∀ y ∈ L.flatten, y < x) : Rise (addL x L) := by
  unfold addL
  split
  · intro i hi; simp at hi
  · rename_i hL
    have h0 : 0 < L.length := List.length_pos_iff.2 hL
    have hk := rise_k h hx hL
    have hlt : L.length - 1 < L.length := by omega
    have hm : L.getD (L.length - 1) [] ∈ L := by rw [List.getD_eq_getElem?_getD, List.getElem?_eq_getElem hlt]; exact List.getElem_mem hlt
    have hlen := h.len _ hm
    have hi := insB_len x (L.getD (L.length - 1) [])
    simp only
    rw [hk]
    generalize insB x (L.getD (L.length - 1) []) = b at *
    have hd : L.drop (L.length - 1 + 1) = [] := List.drop_eq_nil_of_le (by omega)
    have ht : (L.take (L.length - 1)).length = L.length - 1 := by rw [List.length_take]; omega
    have hold : ∀ i, i < L.length - 1 → (L.take (L.length - 1)).getD i [] = L.getD i [] := by
      intro i hi
      rw [List.getD_eq_getElem?_getD, List.getElem?_take_of_lt hi, List.getD_eq_getElem?_getD]
    rw [hd, List.append_nil]
    split
    · intro i hi'
      rw [List.length_append, ht, List.length_singleton] at hi'
      rw [getD_append_l _ _ _ _ (by omega), hold i (by omega)]
      exact hr i (by omega)
    · intro i hi'
      rw [List.append_nil] at hi' ⊢
      rw [List.length_append, ht] at hi'
      simp only [List.length_cons, List.length_nil] at hi'
      by_cases hc : i < L.length - 1
      · rw [getD_append_l _ _ _ _ (by omega), hold i hc]
        exact hr i (by omega)
      · have : i = (L.take (L.length - 1)).length + 0 := by omega
        rw [this, getD_append_r]
        simp only [List.getD_cons_zero]
        rw [List.length_take]; omega
end Go.Proofs.Ytokjeglhmmijfaa
