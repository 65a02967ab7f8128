/-
  Refs of small slots, and the closed law EpochRuns: reckoned by a verified evaluator; condition: the slot's bound.
-/
import Derived.Test.YtafedpphecfgnaaEvU
import Derived.Test.YtafedpphecfgnaaBase
import Derived.Test.YtafedpphecfgnaaEx2
namespace Go.Proofs.Ytafedpphecfgnaa
open Go Go.RowKit
set_option linter.all false
set_option maxRecDepth 1000000
open Go.Ev (St Res Tr R Gh)
noncomputable def isVal (u : Value) : Res → Bool
  | .val v _ => Ev.veq v u
  | _ => false
noncomputable def isParts : Res → Bool
  | .val (.tuple ⟨[.int .i64 _, .int .i64 _, .bool _, .bool b]⟩) _ => b
  | _ => false
section
variable [Ev.Tok] [Ev.Sym] {P : Program} {orc : Ev.Orc}
theorem calls_val (hs : Ev.SymOk P) (ho : Ev.OrcOk P orc) (hm : P.follows .mixedOrders = true) {n g : Nat} {u : Value} {args : List Value} (hu : ∀ γ, Ev.ren γ u = u) (ha : ∀ v ∈ args, Ev.Wf 0 v) (h : isVal u (Ev.runF P orc n (.fn g args Ev.st0)) = true) (w : World) :
    Calls P g (args.map (Ev.ren Ev.γ0)).toArray w fun e w' => e = .returned u ∧ Below w.heap.size w w' := by
  rw [Ev.runF_eq] at h
  unfold isVal at h
  split at h
  case h_2 => cases h
  rename_i v s hres
  have hv := Ev.veq_spec _ _ h
  subst hv
  have := (Ev.sound hs ho hm n).1.2 g args Ev.st0 _ s hres (fun k => k < w.heap.size) Ev.γ0 w (Ev.R.zero _ w) ha
  refine this.mono ?_
  rintro r w' ⟨γ, rfl, _, hR, _, hb, _⟩
  exact ⟨by rw [hu γ], hb.below⟩
theorem calls_parts (hs : Ev.SymOk P) (ho : Ev.OrcOk P orc) (hm : P.follows .mixedOrders = true) {n g : Nat} {args : List Value} (ha : ∀ v ∈ args, Ev.Wf 0 v) (h : isParts (Ev.runF P orc n (.fn g args Ev.st0)) = true) (w : World) :
    Calls P g (args.map (Ev.ren Ev.γ0)).toArray w fun e w' => (∃ a b : Int, ∃ l : Bool, e = .returned (.tuple #[.int .i64 a, .int .i64 b, .bool l, .bool true])) ∧ Below w.heap.size w w' := by
  rw [Ev.runF_eq] at h
  unfold isParts at h
  split at h
  case h_2 => cases h
  rename_i a b l t s hres
  subst h
  have := (Ev.sound hs ho hm n).1.2 g args Ev.st0 _ s hres (fun k => k < w.heap.size) Ev.γ0 w (Ev.R.zero _ w) ha
  refine this.mono ?_
  rintro r w' ⟨γ, rfl, _, hR, _, hb, _⟩
  exact ⟨⟨a, b, l, rfl⟩, hb.below⟩
end
def nm (n : Nat) : Value := .int .i64 n
def RefP : Prop := letI : Ev.Tok := ⟨fun _ => 0, fun _ => ByteArray.empty⟩; ((List.range 200).all fun c => isVal (nm (65536 + c)) (@Ev.runF Ev.noSym Try.prog Ev.noOrc 4000 (.fn 9 [nm c, nm 1, .bool false] Ev.st0)) && isParts (@Ev.runF Ev.noSym Try.prog Ev.noOrc 4000 (.fn 25 [nm (65536 + c)] Ev.st0))) = true
theorem ref_p : RefP := by unfold RefP; kernel_rfl
theorem ref_at (c : Nat) (hc : c < 200) : letI : Ev.Tok := ⟨fun _ => 0, fun _ => ByteArray.empty⟩; isVal (nm (65536 + c)) (@Ev.runF Ev.noSym Try.prog Ev.noOrc 4000 (.fn 9 [nm c, nm 1, .bool false] Ev.st0)) = true ∧ isParts (@Ev.runF Ev.noSym Try.prog Ev.noOrc 4000 (.fn 25 [nm (65536 + c)] Ev.st0)) = true := by
  have h := ref_p
  unfold RefP at h
  have := List.all_eq_true.1 h c (List.mem_range.2 hc)
  rwa [Bool.and_eq_true] at this
theorem ref_any (c : Nat) (hc : c < 200) (w : World) : Calls Try.prog 9 #[.int .i64 c, .int .i64 1, .bool false] w fun e w' => e = .returned (.int .i64 ((65536 + c : Nat) : Int)) ∧ Below w.heap.size w w' := by
  letI : Ev.Tok := ⟨fun _ => 0, fun _ => ByteArray.empty⟩
  letI : Ev.Sym := Ev.noSym
  exact @calls_val _ Ev.noSym Try.prog Ev.noOrc (Ev.noSym_ok _) Ev.noOrc_ok mixed 4000 9 (nm (65536 + c)) [nm c, nm 1, .bool false] (fun γ => rfl) (by simp [nm, Ev.Wf]) (ref_at c hc).1 w
theorem parts_any (c : Nat) (hc : c < 200) : IsRef ((65536 + c : Nat) : Int) := by
  intro w
  letI : Ev.Tok := ⟨fun _ => 0, fun _ => ByteArray.empty⟩
  letI : Ev.Sym := Ev.noSym
  exact @calls_parts _ Ev.noSym Try.prog Ev.noOrc (Ev.noSym_ok _) Ev.noOrc_ok mixed 4000 25 [nm (65536 + c)] (by simp [nm, Ev.Wf]) (ref_at c hc).2 w
theorem closed_any (f n : Nat) (w : World) (h : letI : Ev.Tok := ⟨fun _ => 0, fun _ => ByteArray.empty⟩; Ev.isTrue (@Ev.runF Ev.noSym Try.prog Ev.noOrc n (.fn f [] Ev.st0)) = true) : Calls Try.prog f #[] w fun e w' => e = .returned (.bool true) ∧ Below w.heap.size w w' := by
  letI : Ev.Tok := ⟨fun _ => 0, fun _ => ByteArray.empty⟩
  letI : Ev.Sym := Ev.noSym
  exact @Ev.calls_true_args _ Ev.noSym Try.prog _ (Ev.noSym_ok _) Ev.noOrc_ok mixed n f [] (by simp) (Ev.fast h) w
theorem epochRuns_any (w : World) : Calls Try.prog 14 #[] w fun e w' => e = .returned (.bool true) ∧ Below w.heap.size w w' := closed_any 14 400000 w (by kernel_rfl)
end Go.Proofs.Ytafedpphecfgnaa
