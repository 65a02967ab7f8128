/-
  Slots and pools that agree; rows of the law's own that the arena keeps out of; no condition.
-/
import Derived.Test.YtndmpdpmfieacaaArE
namespace Go.Proofs.Ytndmpdpmfieacaa
open Go.RowKit Go.WideShapes Go.ChangeShapes
set_option linter.all false
/-- The free ones are the pools' own; generations up to G. -/
structure Ok (sl : List Sl) (xs : Nat → List Int) (G : Nat) : Prop where
  free : ∀ i, i < sl.length → ((i : Int) ∈ xs (sl.getD i dS).cls ↔ (sl.getD i dS).live = false)
  only : ∀ c x, x ∈ xs c → ∃ i, i < sl.length ∧ x = (i : Int) ∧ (sl.getD i dS).cls = c
  gen : ∀ i, i < sl.length → 1 ≤ (sl.getD i dS).gen ∧ (sl.getD i dS).gen ≤ G
theorem Fr.ok {ns : Nat → Nat} {sl : List Sl} {xs : Nat → List Int} (h : Fr ns 5 0 sl xs) : Ok sl xs 1 := by
  refine ⟨fun i hi => ?_, fun c x hx => (h.mem c x).1 hx, fun i hi => by rw [(h.all i hi).1]; omega⟩
  rw [(h.all i hi).2]
  exact ⟨fun _ => rfl, fun _ => (h.mem _ _).2 ⟨i, hi, rfl, rfl⟩⟩
section
variable {sl : List Sl} {xs : Nat → List Int} {G i c : Nat}
theorem Ok.more (h : Ok sl xs G) : Ok sl xs (G + 1) := ⟨h.free, h.only, fun i hi => by have := h.gen i hi; omega⟩
/-- The head of a pool. -/
theorem Ok.head (h : Ok sl xs G) (hx : xs c ≠ []) : ∃ i, i < sl.length ∧ (xs c).getD 0 0 = (i : Int) ∧ (sl.getD i dS).cls = c ∧ (sl.getD i dS).live = false := by
  have hm : (xs c).getD 0 0 ∈ xs c := by
    rw [List.getD_eq_getElem?_getD, List.getElem?_eq_getElem (List.length_pos_iff.2 hx)]; exact List.getElem_mem _
  obtain ⟨i, hi, e, hc⟩ := h.only c _ hm
  refine ⟨i, hi, e, hc, (h.free i hi).1 ?_⟩
  rw [hc, ← e]; exact hm
theorem Ok.alloc (h : Ok sl xs G) (hi : i < sl.length) (hx : xs c ≠ []) (hxi : (xs c).getD 0 0 = (i : Int)) (hic : (sl.getD i dS).cls = c) (hnd : (xs c).Nodup) (l : List Int) : Ok (sl.set i (made (sl.getD i dS) l)) (up xs c (popF (xs c))) G := by
  have hp := popF_mem (xs c) hx hnd
  refine ⟨fun j hj => ?_, fun d x hd => ?_, fun j hj => ?_⟩
  · rw [List.length_set] at hj
    rw [getD_set hi]
    by_cases e : j = i
    · subst e
      rw [if_pos rfl]
      show _ ∈ up xs c (popF (xs c)) (sl.getD j dS).cls ↔ true = false
      rw [hic, up_same, hp, hxi]
      simp
    · rw [if_neg e, ← h.free j hj]
      by_cases e2 : (sl.getD j dS).cls = c
      · rw [e2, up_same, hp, hxi]
        exact ⟨fun h => h.1, fun h => ⟨h, by omega⟩⟩
      · rw [up_other _ _ e2]
  · have h2 : x ∈ xs d := by
      by_cases e : d = c
      · subst e; rw [up_same] at hd; exact ((hp x).1 hd).1
      · rw [up_other _ _ e] at hd; exact hd
    obtain ⟨j, hj, e, hc⟩ := h.only d x h2
    refine ⟨j, by rw [List.length_set]; exact hj, e, ?_⟩
    rw [getD_set hi]
    split
    · rename_i e2; subst e2; exact hc
    · exact hc
  · rw [List.length_set] at hj
    rw [getD_set hi]
    split
    · exact h.gen i hi
    · exact h.gen j hj
theorem Ok.freed (h : Ok sl xs G) (hi : i < sl.length) (hic : (sl.getD i dS).cls = c) : Ok (sl.set i (freed (sl.getD i dS))) (up xs c (pushF (xs c) i)) (G + 1) := by
  have hp : ∀ x, x ∈ pushF (xs c) i ↔ x = (i : Int) ∨ x ∈ xs c := fun x => by rw [(pushF_perm _ _).mem_iff, List.mem_cons]
  refine ⟨fun j hj => ?_, fun d x hd => ?_, fun j hj => ?_⟩
  · rw [List.length_set] at hj
    rw [getD_set hi]
    by_cases e : j = i
    · subst e
      rw [if_pos rfl]
      show _ ∈ up xs c (pushF (xs c) j) (sl.getD j dS).cls ↔ false = false
      rw [hic, up_same, hp]
      simp
    · rw [if_neg e, ← h.free j hj]
      by_cases e2 : (sl.getD j dS).cls = c
      · rw [e2, up_same, hp]
        exact ⟨fun h => by rcases h with h | h; omega; exact h, .inr⟩
      · rw [up_other _ _ e2]
  · have h2 : x ∈ xs d ∨ (x = (i : Int) ∧ d = c) := by
      by_cases e : d = c
      · subst e; rw [up_same, hp] at hd; rcases hd with hd | hd; exact .inr ⟨hd, rfl⟩; exact .inl hd
      · rw [up_other _ _ e] at hd; exact .inl hd
    have h3 : ∃ j, j < sl.length ∧ x = (j : Int) ∧ (sl.getD j dS).cls = d := by
      rcases h2 with h2 | ⟨h2, h4⟩
      · exact h.only d x h2
      · exact ⟨i, hi, h2, by rw [h4]; exact hic⟩
    obtain ⟨j, hj, e, hc⟩ := h3
    refine ⟨j, by rw [List.length_set]; exact hj, e, ?_⟩
    rw [getD_set hi]
    split
    · rename_i e2; subst e2; exact hc
    · exact hc
  · rw [List.length_set] at hj
    rw [getD_set hi]
    split
    · have := h.gen i hi
      show 1 ≤ (sl.getD i dS).gen + 1 ∧ (sl.getD i dS).gen + 1 ≤ G + 1
      omega
    · have := h.gen j hj; omega
theorem Ok.not_mem (h : Ok sl xs G) (hi : i < sl.length) (hl : (sl.getD i dS).live = true) : (i : Int) ∉ xs (sl.getD i dS).cls := fun hm => by
  have := (h.free i hi).1 hm
  rw [hl] at this; cases this
/-- The slot that a ref names. -/
theorem live_ref (hi : i < sl.length) (h9 : i < 1024) (hl : (sl.getD i dS).live = true) (hg : 1 ≤ (sl.getD i dS).gen ∧ (sl.getD i dS).gen ≤ 1073741824) : Live sl (refV i (sl.getD i dS).gen (((sl.getD i dS).cls : Int) == 0)) i := by
  obtain ⟨h1, h2, h3⟩ := slot_part (s := (i : Int)) (g := ((sl.getD i dS).gen : Int)) (l := (((sl.getD i dS).cls : Int) == 0)) (by omega) (by omega)
  exact ⟨good_ref (by omega) (by omega), hi, h1, h3, h2, hl⟩
end
/-- A row of numbers of the law's own; F's blocks keep out of it. -/
structure Rw (F : Nat → Prop) (W : World) (N : Nat) (v : Value) (n : Nat) (xs : List Int) : Prop where
  mid : Mid W N 3 1 v n (ks .i64 xs)
  out : ∀ g, v.ownBlock = some g → ¬ F g
section
variable {F F' : Nat → Prop} {W W' : World} {N n : Nat} {v v' : Value} {xs : List Int}
theorem Rw.nil (F : Nat → Prop) (W : World) (N : Nat) : Rw F W N (.slice none 0 0) 0 [] := ⟨Mid.nil _ _ _ _, fun g hg => by cases hg⟩
theorem Rw.mv (h : Rw F W N v n xs) (hm : Mv F F' W W') : Rw F' W' N v n xs :=
  ⟨h.mid.same fun g hg => hm.block g (h.mid.lt g hg).2 (h.out g hg), fun g hg hf => by
    rcases hm.foot g hf with h1 | h1
    · exact h.out g hg h1
    · have := (h.mid.lt g hg).2; omega⟩
theorem Rw.on (h : Rw F W N v n xs) (hb : Below W.heap.size W W') : Rw F W' N v n xs := ⟨h.mid.onb hb, h.out⟩
/-- The row has grown. -/
theorem Rw.app {x : Int} (h : Rw F W N v n xs) (hF : ∀ b, F b → b < W.heap.size) (hm : Mid W' N 3 1 v' (n + 1) (ks .i64 xs ++ [.int .i64 x])) (hr : Ran v v' W W') : Rw F W' N v' (n + 1) (xs ++ [x]) := by
  refine ⟨by rw [ks_append]; exact hm, fun g hg hf => ?_⟩
  rcases hr.at_ with e | e
  · exact h.out g (e ▸ hg) hf
  · have := e g hg; have := hF g hf; omega
/-- Another row has grown. -/
theorem Rw.other {u u' : Value} (h : Rw F W N v n xs) (hne : ∀ g, v.ownBlock = some g → u.ownBlock ≠ some g) (hr : Ran u u' W W') : Rw F W' N v n xs := ⟨h.mid.on_apart hne hr, h.out⟩
theorem apart_ran {u u' : Value} (h : ∀ g, v.ownBlock = some g → u.ownBlock ≠ some g) (hlt : ∀ g, v.ownBlock = some g → g < W.heap.size) (hr : Ran u u' W W') : ∀ g, v.ownBlock = some g → u'.ownBlock ≠ some g := fun g hg hu => by
  rcases hr.at_ with e | e
  · exact h g hg (e ▸ hu)
  · have := e g hu; have := hlt g hg; omega
end
section
variable {N B S k q : Nat} {sl : List Sl} {P I : Nat → Nat} {V : Nat → Value} {xs : Nat → List Int} {W W' : World}
/-- The arena where a row has grown. -/
theorem Ar.ran {u u' : Value} (h : Ar N B S k q sl P I V xs W) (hne : ∀ g, u.ownBlock = some g → ¬ Foot B S q sl P I V g) (hr : Ran u u' W W') : Ar N B S k q sl P I V xs W' :=
  h.same fun b hf => hr.grown.block b (h.foot hf).2 (fun e => hne b e.symm hf)
theorem Ar.far (h : Ar N B S k q sl P I V xs W) {a : Addr} (hne : ¬ Foot B S q sl P I V a.block) (u : Value) : Ar N B S k q sl P I V xs (W.setCell a u) :=
  h.same fun b hf => heap_far W a u (fun e => hne (e ▸ hf))
end
end Go.Proofs.Ytndmpdpmfieacaa
