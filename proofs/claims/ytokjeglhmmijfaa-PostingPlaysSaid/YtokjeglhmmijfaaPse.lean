/-
  A region of drawn order in a round of a loop over an iterator, by the plain laws; rows and lists that abide the turn of what is no cells; no condition.
-/
import Derived.Test.YtokjeglhmmijfaaPsd
import Derived.RangeFuncNested
import Derived.RangeFuncBound
import Derived.RangeFuncCalls
import Derived.RangeFuncLeaves
import Derived.Shelf.Abstract
import Derived.Shelf.RegionOpen
import Derived.OwnWalkIn
import Derived.TacticsInMore
import Derived.LoopNIn
import Derived.LoopIn
namespace Go.Proofs.Ytokjeglhmmijfaa
open Go Go.RowKit Go.WideShapes Go.ChangeShapes Go.Shelf
set_option linter.all false
section
variable {P : Program} {ops : Array Oper} {Q : Exit → Act → World → Prop} {md : Region.Mode} {l n : Nat}
theorem wp_round {o : Oper} {a : Act} {w : World} {K : Act → World → Prop} (hd : ∀ c, o.op ≠ .defer c) (h : o.wp P a w K Q) : o.wpIn (Fence.wide.inRound l) n P a w K Q := by
  unfold Oper.wp at h
  unfold Oper.wpIn
  refine ⟨fun f _ => trivial, ?_⟩
  rw [Oper.semAt_eq _ _ _ hd]
  generalize (execOp a.eval o).run P w = r at h
  cases r with
  | ok x w' =>
    cases x with
    | value v => exact h
    | skip => exact h
    | defer d => exact h
    | enter f args => exact ⟨(fun hh => by cases hh), (callsIn_wide (n := n - 1)).2 h⟩
    | row row args => exact ⟨(fun hh => by cases hh), fun c cs _ => let ⟨v, w', r, s⟩ := h c cs; ⟨v, w', r, stepsIn_wide.2 s⟩⟩
    | _ => exact h.elim
  | halt x w' => cases x <;> exact h
def noDefers (ops : Array Oper) : Bool := ops.all fun o => match o.op with | .defer _ => false | _ => true
theorem noDefers_spec (h : noDefers ops = true) {i : Nat} {o : Oper} (ho : ops[i]? = some o) : ∀ c, o.op ≠ .defer c := by
  intro c e
  unfold noDefers at h
  have hlt := (Array.getElem?_eq_some_iff.1 ho).1
  have h2 := (Array.all_eq_true.1 h) i hlt
  have h3 := (Array.getElem?_eq_some_iff.1 ho).2
  rw [h3, e] at h2
  cases h2
theorem wpAny_round (hd : noDefers ops = true) (hQ : ¬ LetsOut Q) : ∀ (f : Nat) (listed : Array Bool) (a : Act) (w : World), wpAny P md ops Q f listed a w → wpAnyIn (Fence.wide.inRound l) n P md ops Q f listed a w
  | 0, _, _, _, h => h
  | f + 1, listed, a, w, h => ⟨h.1, fun i hi => by
      have h2 := h.2 i hi
      unfold wpOp at h2
      unfold wpOpIn
      cases ho : ops[i]? with
      | none => rw [ho] at h2; exact wpAny_round hd hQ f _ a w h2
      | some o =>
        rw [ho] at h2
        simp only at h2 ⊢
        split at h2
        · rename_i hw
          rw [if_pos hw]
          rcases h2 with h2 | ⟨_, h2⟩
          · exact wp_round (noDefers_spec hd ho) (Oper.wp_mono (fun a w hh => wpAny_round hd hQ f _ a w hh) h2)
          · exact absurd h2 hQ
        · rename_i hw
          rw [if_neg hw]
          exact ⟨fun _ _ => trivial, wpAny_round hd hQ f _ _ w h2⟩⟩
theorem wpIn_region_T {id : Nat} {a : Act} {w : World} (S : World → Prop) (k : Nat) (hm : P.follows .mixedOrders = true) (hd : noDefers ops = true) (hQ : ¬ LetsOut Q) (h : wpAnyT P .any ops Q S k ops.size (Array.replicate ops.size false) a w.drew) : (Code.region id ops true).wpIn (Fence.wide.inRound l) n P Q a w :=
  wpIn_region_any hm (wpAny_round hd hQ _ _ _ _ (wpAny_of_T _ _ _ _ h))
end
/-- A step that turns no cells. -/
structure Turns (W W' : World) (row : Option Nat) : Prop where
  grown : W.grownBy W' row
  at_ : ∀ r, row = some r → ∃ o : Obj, W.heap[r]? = some o ∧ o.isCells = false
section
variable {W W' : World} {row : Option Nat}
theorem Turns.block (h : Turns W W' row) {g : Nat} {o : Obj} (hg : W.heap[g]? = some o) (ho : o.isCells = true) : W'.heap[g]? = some o :=
  (h.grown.block g (lt_of_heap hg) (fun e => by
    obtain ⟨o', h1, h2⟩ := h.at_ g e.symm
    rw [hg] at h1; injection h1 with h1; subst h1; rw [ho] at h2; cases h2)).trans hg
theorem Mid.tu {N n : Nat} {t : TypeId} {v : Value} {xs : List Value} (h : Turns W W' row) (hm : Mid W N t 1 v n xs) : Mid W' N t 1 v n xs := by
  rcases hm.2 with ⟨rfl, h0⟩ | ⟨g, off, cap, cur, rfl, hb, hh, h3⟩
  · exact ⟨hm.1, .inl ⟨rfl, h0⟩⟩
  · exact ⟨hm.1, .inr ⟨g, off, cap, cur, rfl, hb, h.block hh rfl, h3⟩⟩
theorem Reads.tu {B n : Nat} {A : Option Addr} {xs : List Value} (h : Turns W W' row) (hr : Reads W B 1 A n xs) : Reads W' B 1 A n xs :=
  ⟨hr.1, fun hn => by
    obtain ⟨ad, e, hb, hc⟩ := hr.2 hn
    exact ⟨ad, e, hb, fun j u hu => cell_kept (hc j u hu) h.grown h.at_⟩⟩
theorem SK.tu {κ : IntKind} {B n c : Nat} {A : Option Addr} {l : List Int} (h : Turns W W' row) (hs : SK κ W B A n c l) : SK κ W' B A n c l := ⟨hs.1, hs.2.1, hs.2.2.1, hs.2.2.2.tu h⟩
theorem EK.tu {κ : IntKind} {ti : TypeId} {N M : Nat} {e : Ar} (h : Turns W W' row) (he : EK κ ti W N M e) : EK κ ti W' N M e := by
  rcases he with he | he
  · exact .inl (he.tu h)
  · exact .inr (he.tu h)
theorem OL.tu {κ : IntKind} {ti tp : TypeId} {N M : Nat} {V : Value} {own : List Ar} (h : Turns W W' row) (ho : OL κ ti tp W N M V own) : OL κ ti tp W' N M V own :=
  ⟨ho.row.tu h, fun e he => (ho.els e he).tu h, ho.le, Nat.le_trans ho.leM h.grown.size⟩
end
theorem KeepsOthers.below {W W' : World} (h : Below W.heap.size W W') : KeepsOthers W W' := ⟨h.size, fun k o hk _ => (h.block k (lt_of_heap hk)).trans hk⟩
theorem KeepsOthers.ran {W W' : World} {N n : Nat} {t : TypeId} {v v' : Value} {xs : List Value} (hm : Mid W N t 1 v n xs) (h : Ran v v' W W') : KeepsOthers W W' := ⟨h.grown.size, fun k o hk ho => (h.grown.block k (lt_of_heap hk) (fun e => by
  rcases hm.2 with ⟨rfl, _⟩ | ⟨g, off, cap, cur, rfl, _, hh, _⟩
  · cases e
  · have : g = k := by simpa [Value.ownBlock] using e.symm
    subst this
    rw [hk] at hh; injection hh with hh; subst hh; cases ho)).trans hk⟩
end Go.Proofs.Ytokjeglhmmijfaa
