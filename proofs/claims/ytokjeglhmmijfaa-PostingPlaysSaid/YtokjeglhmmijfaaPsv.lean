/-
  Lists of lists cut, joined, and of the call's own; no condition.
-/
import Derived.Test.YtokjeglhmmijfaaPsu
import Derived.Test.YtokjeglhmmijfaaAnyK
namespace Go.Proofs.Ytokjeglhmmijfaa
open Go.RowKit Go.WideShapes Go.ChangeShapes
set_option linter.all false
section
variable {κ : IntKind} {w w' : World} {B n c k : Nat} {A : Option Addr} {ls : List Ar}
theorem LK.take (h : LK κ w B A n c ls) (hk : k ≤ n) : LK κ w B A k c (ls.take k) :=
  ⟨by have := h.1; omega, h.2.1, fun e => by have := h.2.2.1 e; omega, by rw [List.map_take]; exact rv_take h.2.2.2.1 hk, fun e he => h.2.2.2.2 e (List.mem_of_mem_take he)⟩
theorem LK.drop (h : LK κ w B A n c ls) (hk : k ≤ n) : LK κ w B (if c = k then A else A.map (·.add k)) (n - k) (c - k) (ls.drop k) := by
  refine ⟨by have := h.1; omega, by have := h.2.1; omega, fun e => ?_, ?_, fun e he => h.2.2.2.2 e (List.mem_of_mem_drop he)⟩
  · split at e
    · rename_i h1; have := h.1; omega
    · have : A = none := by cases A with | none => rfl | some a => cases e
      have := h.2.2.1 this; omega
  · have := h.2.2.2.1.cut (k := k) (cap := c) hk h.1
    rw [Nat.mul_one] at this
    rw [List.map_drop]
    exact this
end
theorem OO.append {w w' : World} {N : Nat} {V V' : Value} {own more : List Ar} (h : OO w N V own) (he : ∀ e ∈ more, Mid w N 3 1 e.v e.n (ks .i64 e.l)) (hm : Mid w' N 28 1 V' (own.length + more.length) (own.map Ar.v ++ more.map Ar.v)) (hr : Ran V V' w w') : OO w' N V' (own ++ more) := by
  refine ⟨by rw [List.length_append, List.map_append]; exact hm, fun x hx => ?_, Nat.le_trans h.le hr.grown.size⟩
  rw [List.mem_append] at hx
  rcases hx with hx | hx
  · exact (h.els x hx).on_ran h.row (by decide) hr
  · exact (he x hx).on_ran h.row (by decide) hr
/-- The front of a row, its room cut too. -/
theorem Mid.front {w : World} {N n c k : Nat} {t : TypeId} {A : Option Addr} {xs : List Value} (h : Mid w N t 1 (.slice A n c) n xs) (hk : k ≤ n) {d : Nat} (hd : k ≤ d) (hdc : d ≤ c) : Mid w N t 1 (.slice A k d) k (xs.take k) := by
  rcases h.2 with ⟨h', h0⟩ | ⟨g, off, cap, cur, h', hg, hh, h1, h2, h3, h4⟩
  · injection h' with h5 h6 h7
    subst h7
    obtain rfl : k = 0 := by omega
    obtain rfl : d = 0 := by omega
    exact ⟨by simp, .inl ⟨by rw [h5], rfl⟩⟩
  · injection h' with h5 h6 h7
    subst h5 h7
    have hl := h.1
    rw [Nat.mul_one] at hl
    refine ⟨by rw [List.length_take, hl]; omega, .inr ⟨g, off, d, cur, rfl, hg, hh, hd, by omega, by omega, ?_⟩⟩
    rw [← h4, List.take_take]
    simp only [Nat.mul_one]
    rw [Nat.min_eq_left hk]
theorem oneV (l : List Ar) : ∀ u ∈ l.map Ar.v, u.oneCell' = true := by
  intro u hu
  obtain ⟨e, _, rfl⟩ := List.mem_map.1 hu
  rfl
/-- What the reference's calls hand back: a list of the call's own, and whether. -/
def RefR (L : List (List Nat)) (ok : Bool) (w : World) (e : Ending) (w' : World) : Prop :=
  ∃ A c own, e = .returned (.tuple #[.slice A L.length c, .bool ok]) ∧ Below w.heap.size w w' ∧ OO w' w.heap.size (.slice A L.length c) own ∧ own.map Ar.l = L.map nb
theorem BlksP.lk {L : List (List Nat)} {w w' : World} {e : Ending} (h : BlksP L w e w') : ∃ A c ws, e = .returned (.slice A L.length c) ∧ Below w.heap.size w w' ∧ LK .i64 w' w'.heap.size A L.length c ws ∧ ws.map Ar.l = L.map nb := by
  obtain ⟨A, c, own, rfl, hb, ho, hl⟩ := h
  have hn : own.length = L.length := by have := congrArg List.length hl; rwa [List.length_map, List.length_map] at this
  exact ⟨A, c, own, rfl, hb, ho.lk hn, hl⟩
theorem maps_len {ws : List Ar} {L : List (List Nat)} (h : ws.map Ar.l = L.map nb) : ws.length = L.length := by have := congrArg List.length h; rwa [List.length_map, List.length_map] at this
end Go.Proofs.Ytokjeglhmmijfaa
