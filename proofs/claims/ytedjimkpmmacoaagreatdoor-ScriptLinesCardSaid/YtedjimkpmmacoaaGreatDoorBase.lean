/-
  A law's step where the call leaves the world as it was below; the number that Within brings into bounds; no condition but these bounds.
-/
import Derived.Test.YtedjimkpmmacoaaGreatDoorEvT
import Derived.Test.YtedjimkpmmacoaaGreatDoorChecked
import Derived.WalkKit
import Derived.OpenShut
import Derived.Below
import Derived.ChangeSame
namespace Go.Proofs.YtedjimkpmmacoaaGreatDoor
open Go.RowKit Go.WideShapes Go.ChangeShapes
set_option linter.all false
set_option linter.unusedVariables false
section
variable {H : Type} {enc : TypeId × Value → H} {P : Program}
theorem post_of_below {f : Func} {s : ChangeSpec} {apart fresh handsOn again : Bool} {W W' : World} {args : Array Value} {v : Value} {ds gs : List (DataW H)} {before pa pv : List MemPlace}
    (hW : DataW.Whole enc P f.params.toList s.vars apart W args.toList ds gs before)
    (hres : ∀ (b : Nat) (sp : Nat → Bool) (hd : Bool), DataW.TrodAll enc P W' b sp hd f.resultTypes.toList (v.resultList f.resultTypes.size) (s.fn H (ds ++ gs)).results [])
    (hargs : ∀ sp : Nat → Bool, (∀ p ∈ before, sp p.block = true) → DataW.TrodAll enc P W' 0 sp true f.params.toList args.toList (s.fn H (ds ++ gs)).args pa)
    (hvars : ∀ sp : Nat → Bool, (∀ p ∈ before, sp p.block = true) → DataW.TrodVars enc P W' sp s.vars (s.fn H (ds ++ gs)).vars pv)
    (hps : before = pa ++ pv) (hb : Below W.heap.size W W')
    (hok : ∀ (j : Nat) (t : TypeId) (r : Value), f.resultTypes[j]? = some t → (v.resultList f.resultTypes.size)[j]? = some r → Value.okWide P W' .any 0 t r) :
    s.post enc P f apart fresh handsOn again W args v W' := by
  have hlt : ∀ p ∈ before, p.block < W.heap.size := fun p hp => hW.lt p hp
  have hold : ∀ p ∈ before, (fun b => decide (b < W.heap.size)) p.block = true := fun p hp => by simpa using hlt p hp
  refine ⟨ds, gs, before, [], pa, pv, hW, hres _ _ _, hargs _ hold, hvars _ hold, World.keptBut_mono (fun p hp => ⟨hp, ?_⟩) (hb.frame (· ∈ before)), fun _ => ?_⟩
  · rw [hps, List.mem_append] at hp
    exact Or.inr hp
  · obtain ⟨_, _, _, _, _, hz, hn⟩ := hW
    refine ⟨hok, _, _, ([] ++ pa) ++ pv, ⟨[] ++ pa, pv, trodAll_append (hargs _ (fun _ _ => rfl)) (hres _ _ _), hvars _ (fun _ _ => rfl), rfl, ?_, ?_⟩, ?_⟩
    · intro b off hp
      have hin : MemPlace.cell b off ∈ before := by rw [hps]; simpa using hp
      rw [hb.frozen (hlt _ hin)]
      exact hz b off hin
    · intro ha
      have := hn ha
      rw [hps] at this
      simpa using this
    · intro p hp _
      rw [hps]
      simpa using hp
end

def withinV (n m : Int) : Int := if n.tmod m < 0 then n.tmod m + m else n.tmod m
theorem withinV_in (n m : Int) (hm : 0 < m) : 0 ≤ withinV n m ∧ withinV n m < m := by
  unfold withinV
  have h1 := Int.tmod_lt_of_pos n hm
  have h2 : -m < n.tmod m := Int.lt_tmod_of_pos n hm
  split <;> omega
theorem withinV_nat (n : Int) (m : Nat) (hm : 0 < m) : ∃ k : Nat, withinV n m = k ∧ k < m := by
  have := withinV_in n m (by omega)
  exact ⟨(withinV n m).toNat, by omega, by omega⟩
/-- The token of argument i. -/
def tk (i : Nat) : Value := .complex .f64 i 0
def num (k : Nat) : Value := .int .i64 (Int.ofNat k)
set_option maxRecDepth 1000000
theorem mixed : Tryz.prog.follows .mixedOrders = true := by kernel_rfl
/-- A closed law that is known to return true. -/
def tRow (g : Nat) : Ev.ORow := ⟨g, [], .bool true⟩
theorem tRow_ok [Ev.Tok] {g : Nat} (h : ∀ w, Calls Tryz.prog g #[] w fun e w' => e = .returned (.bool true) ∧ Below w.heap.size w w') : (tRow g).ok Tryz.prog :=
  ⟨trivial, fun _ w => h w⟩
end Go.Proofs.YtedjimkpmmacoaaGreatDoor
