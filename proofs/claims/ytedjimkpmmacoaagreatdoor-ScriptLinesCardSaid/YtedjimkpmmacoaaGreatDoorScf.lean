/-
  strconv.Itoa at one digit, script.outcome of a found digit: closed runs of a verified evaluator; conditions: these.
-/
import Derived.Test.YtedjimkpmmacoaaGreatDoorEvU
import Derived.Test.YtedjimkpmmacoaaGreatDoorIns
import Derived.Test.YtedjimkpmmacoaaGreatDoorBase
namespace Go.Proofs.YtedjimkpmmacoaaGreatDoor
open Go Go.RowKit
set_option maxRecDepth 1000000
set_option linter.all false
noncomputable def orcF : Ev.Orc := Ev.orcOf [] insL delL
theorem orcF_ok [Ev.Tok] : letI : Ev.Sym := Ev.noSym; Ev.OrcOk Tryz.prog orcF := by
  letI : Ev.Sym := Ev.noSym
  exact Ev.orcOf_ok (by simp) insL_ok delL_ok
noncomputable def isStrB (s : List UInt8) : Ev.Res → Bool
  | .val (.string t) _ => t.data.toList == s
  | _ => false
theorem isStrB_spec {s : List UInt8} {r : Ev.Res} (h : isStrB s r = true) : ∃ s', r = .val (.string ⟨s.toArray⟩) s' := by
  unfold isStrB at h
  split at h
  · rename_i t s'
    refine ⟨s', ?_⟩
    have : t.data.toList = s := by simpa using h
    subst this
    rfl
  · cases h
theorem str_run {g : Nat} {args : List Value} {s : List UInt8} (ha : ∀ v ∈ args, Ev.Wf 0 v) (hf : args.map (@Ev.ren ⟨fun _ => 0, fun _ => ByteArray.empty⟩ Ev.γ0) = args) (h : isStrB s (@Ev.runF Ev.noSym Tryz.prog orcF 40000 (.fn g args Ev.st0)) = true) (w : World) :
    Calls Tryz.prog g args.toArray w fun e w' => e = .returned (.string ⟨s.toArray⟩) ∧ Below w.heap.size w w' := by
  letI : Ev.Tok := ⟨fun _ => 0, fun _ => ByteArray.empty⟩
  letI : Ev.Sym := Ev.noSym
  rw [Ev.runF_eq] at h
  obtain ⟨s', h⟩ := isStrB_spec h
  have := @Ev.calls_of_run _ Ev.noSym Tryz.prog _ (Ev.noSym_ok _) orcF_ok mixed 40000 g args _ s' ha h rfl Ev.γ0 w
  rw [hf] at this
  exact this
theorem itoa_all : ((List.range 10).all fun k => isStrB [UInt8.ofNat (48 + k)] (@Ev.runF Ev.noSym Tryz.prog orcF 40000 (.fn 36 [.int .i64 (k : Nat)] Ev.st0))) = true := by kernel_rfl
theorem itoa_any (k : Nat) (hk : k < 10) (w : World) : Calls Tryz.prog 36 #[.int .i64 (k : Nat)] w fun e w' => e = .returned (.string ⟨#[UInt8.ofNat (48 + k)]⟩) ∧ Below w.heap.size w w' :=
  str_run (args := [.int .i64 (k : Nat)]) (by intro v hv; simp only [List.mem_singleton] at hv; subst hv; trivial) rfl (List.all_eq_true.1 itoa_all k (List.mem_range.2 hk)) w
theorem out_all : ((List.range 10).all fun k => isStrB [32, UInt8.ofNat (48 + k)] (@Ev.runF Ev.noSym Tryz.prog orcF 40000 (.fn 38 [.agg #[.int .i64 0, .bool true, .int .i64 (k : Nat), .slice none 0 0]] Ev.st0))) = true := by kernel_rfl
theorem out_any (k : Nat) (hk : k < 10) (w : World) : Calls Tryz.prog 38 #[.agg #[.int .i64 0, .bool true, .int .i64 (k : Nat), .slice none 0 0]] w fun e w' => e = .returned (.string ⟨#[32, UInt8.ofNat (48 + k)]⟩) ∧ Below w.heap.size w w' :=
  str_run (args := [.agg #[.int .i64 0, .bool true, .int .i64 (k : Nat), .slice none 0 0]]) (by intro v hv; simp only [List.mem_singleton] at hv; subst hv; simp [Ev.Wf, Ev.WfL]) (by simp [Ev.ren, Ev.renL, Ev.tailA, Ev.tailC]) (List.all_eq_true.1 out_all k (List.mem_range.2 hk)) w
end Go.Proofs.YtedjimkpmmacoaaGreatDoor
