/-
  A verified evaluator of the model's code, part G1 (own work): no condition; the theorem 'sound' of its last part is what a claim uses.
-/
import Derived.Test.YtononinmjijhoaaEvF
namespace Go.Ev
set_option linter.all false
set_option linter.unusedVariables false
set_option linter.unusedSimpArgs false
set_option linter.unusedSectionVars false
set_option linter.unnecessarySimpa false
open Go Go.RowKit
variable [Tok] [Sym]
section
variable {P : Program} {B : Nat → Prop} {γ : Gh} {s : St} {w : World}

noncomputable def evLenS (P : Program) (t : TypeId) (x : Value) : Option Value :=
  match P.underlying t, x with
  | some .string, .float k i => Sym.len (.float k i)
  | _, _ => none
theorem evLenS_run (hs : SymOk P) {argTypes : Array TypeId} {t ty : TypeId} {x v : Value} (h0 : argTypes[0]? = some t) (he : evLenS P t x = some v) :
    (Builtin.len_ argTypes ty #[ren γ x]).run P w = .ok (ren γ v) w ∧ Wf s.n v := by
  unfold evLenS at he
  split at he
  · rename_i k i hu
    obtain ⟨h1, h2⟩ := hs.len k i v he
    refine ⟨?_, h1.mono (Nat.zero_le _)⟩
    rw [h2 γ]
    simp [Builtin.len_, h0, run_underlying hu, ren]
  · cases he
noncomputable def evBuiltin (P : Program) (s : St) (b : Builtin) (ts : Array TypeId) (args : List Value) : OpR :=
  match b, args with
  | .append, [x, y] =>
    match ts[0]?, (ts[1]?).bind P.underlying with
    | some _, some (.int _) => .err
    | some sT, some _ => valR (evAppend P s sT x y)
    | _, _ => .err
  | .len, [x] => match ts[0]? with | some t => (match evLen P t x with | some v => .val v s | none => match evLenM P s t x with | some v => .val v s | none => valP s (evLenS P t x)) | none => .err
  | .delete, [x, k] => match ts[0]? with | some t => valR (evDelete P s t x k) | none => .err
  | .cap, [x] => match ts[0]? with | some t => valP s (evCap P s t x) | none => .err
  | .copy, [x, y] => match ts[0]? with | some t => valR (evCopy P s t x y) | none => .err
  | .clear, [x] => match ts[0]? with | some t => valR (evClear P s t x) | none => .err
  | .min, [x, y] => valP s (evMin2 x y)
  | .max, [x, y] => valP s (evMax2 x y)
  | .min, [x, y, z] => valP s ((evMin2 x y).bind fun a => evMin2 a z)
  | .max, [x, y, z] => valP s ((evMax2 x y).bind fun a => evMax2 a z)
  | _, _ => .err

theorem evMin2_run {x y v : Value} (he : evMin2 x y = some v) : (Builtin.min2 (ren γ x) (ren γ y)).run P w = .ok (ren γ v) w ∧ Wf s.n v := by
  unfold evMin2 at he
  split at he
  · split at he
    · rename_i hk; injection he with he; subst he hk; exact ⟨rfl, trivial⟩
    · cases he
  · cases he
theorem evMax2_run {x y v : Value} (he : evMax2 x y = some v) : (Builtin.max2 (ren γ x) (ren γ y)).run P w = .ok (ren γ v) w ∧ Wf s.n v := by
  unfold evMax2 at he
  split at he
  · split at he
    · rename_i hk; injection he with he; subst he hk; exact ⟨rfl, trivial⟩
    · cases he
  · cases he

theorem evBuiltin_sim (hs : SymOk P) (hR : R B γ s w) {b : Builtin} {ts : Array TypeId} {ty : TypeId} {cs : Array Bool} {args : List Value} (ha : ∀ v ∈ args, Wf s.n v) :
    OpSim P B γ s w (builtin b ts ty cs (args.map (ren γ)).toArray) (evBuiltin P s b ts args) := by
  unfold evBuiltin
  split
  · rename_i x y
    split
    · trivial
    · rename_i sT d hni h0 h1
      cases hx : ts[1]? with
      | none => rw [hx] at h1; cases h1
      | some xT =>
        rw [hx] at h1
        exact OpSim.ofSim fun v s' he => evAppend_sim hR h0 hx h1 (fun k e => hni k (by rw [e])) (ha x (by simp)) he
    · trivial
  · rename_i x
    split
    · rename_i t h0
      have h1 := OpSim.ofRun (P := P) hR (m := Builtin.len_ ts ty #[ren γ x]) (r := evLen P t x) fun v he => evLen_run h0 he
      have h2 := OpSim.ofRun (P := P) hR (m := Builtin.len_ ts ty #[ren γ x]) (r := evLenM P s t x) fun v he => evLenM_run hR h0 he
      have h3 := OpSim.ofRun (P := P) hR (m := Builtin.len_ ts ty #[ren γ x]) (r := evLenS P t x) fun v he => evLenS_run hs h0 he
      cases he : evLen P t x with
      | some v => rw [he] at h1; exact h1
      | none => cases he2 : evLenM P s t x with
        | some v => rw [he2] at h2; exact h2
        | none => exact h3
    · trivial
  · rename_i x k
    split
    · rename_i t h0
      exact OpSim.ofSim fun v s' he => evDelete_sim hR h0 (ha k (by simp)) he
    · trivial
  · split
    · rename_i t h0
      exact OpSim.ofRun hR fun v he => evCap_run hR h0 he
    · trivial
  · split
    · rename_i t h0
      exact OpSim.ofSim fun v s' he => evCopy_sim hR h0 he
    · trivial
  · split
    · rename_i t h0
      exact OpSim.ofSim fun v s' he => evClear_sim hR h0 he
    · trivial
  · exact OpSim.ofRun hR fun v he => by
      obtain ⟨h1, h2⟩ := evMin2_run (P := P) (γ := γ) (s := s) (w := w) he
      exact ⟨by simp [Builtin.min_, h1], h2⟩
  · exact OpSim.ofRun hR fun v he => by
      obtain ⟨h1, h2⟩ := evMax2_run (P := P) (γ := γ) (s := s) (w := w) he
      exact ⟨by simp [Builtin.max_, h1], h2⟩
  · rename_i x y z
    exact OpSim.ofRun hR fun v he => by
      cases hq : evMin2 x y with
      | none => simp [hq] at he
      | some a =>
        simp [hq] at he
        obtain ⟨h1, _⟩ := evMin2_run (P := P) (γ := γ) (s := s) (w := w) hq
        obtain ⟨h3, h4⟩ := evMin2_run (P := P) (γ := γ) (s := s) (w := w) he
        exact ⟨by simp [Builtin.min_, h1, h3], h4⟩
  · rename_i x y z
    exact OpSim.ofRun hR fun v he => by
      cases hq : evMax2 x y with
      | none => simp [hq] at he
      | some a =>
        simp [hq] at he
        obtain ⟨h1, _⟩ := evMax2_run (P := P) (γ := γ) (s := s) (w := w) hq
        obtain ⟨h3, h4⟩ := evMax2_run (P := P) (γ := γ) (s := s) (w := w) he
        exact ⟨by simp [Builtin.max_, h1, h3], h4⟩
  · trivial

noncomputable def evAssert (P : Program) (t : TypeId) (ok : Bool) (x : Value) : Option Value :=
  match P.underlying t, x with
  | some (.interface _), _ => none
  | some _, .iface u v => if u = t then some (if ok = true then .tuple #[v, .bool true] else v)
    else if ok = true then match tz P t with
      | some z => if flat z = true then some (.tuple #[z, .bool false]) else none
      | none => none
    else none
  | _, _ => none
theorem evAssert_run {t xT : TypeId} {ok : Bool} {x v : Value} (hx : Wf s.n x) (he : evAssert P t ok x = some v) :
    (Instr.typeAssert (ren γ x) xT t ok).run P w = .ok (ren γ v) w ∧ Wf s.n v := by
  unfold evAssert at he
  split at he
  · cases he
  · rename_i d u q hni hu
    split at he
    · rename_i hut
      injection he with he; subst he hut
      have hq : Wf s.n q := hx
      refine ⟨?_, by cases ok <;> simp [Wf_tuple, hq, Wf]⟩
      cases d with
      | interface ms => exact (hni ms rfl).elim
      | _ => cases ok <;> simp [Instr.typeAssert, run_underlying hu, ren, ren_tuple]
    · rename_i hut
      split at he
      · rename_i hok
        subst hok
        split at he
        · rename_i z hz
          split at he
          · rename_i hf
            injection he with he; subst he
            refine ⟨?_, (Wf_tuple _ _).2 (fun x hx => by
              have hx' : x = z ∨ x = .bool false := by simpa using hx
              rcases hx' with rfl | rfl
              · exact flat_wf s.n hf
              · trivial)⟩
            have hr : ren γ (.tuple #[z, .bool false]) = .tuple #[z, .bool false] := by
              have h2 : ren γ (.bool false) = .bool false := rfl
              rw [ren_tuple]; simp [flat_ren γ hf, h2]
            rw [hr]
            cases d with
            | interface ms => exact (hni ms rfl).elim
            | _ => simp [Instr.typeAssert, run_underlying hu, ren, hut, run_tz hz]
          · cases he
        · cases he
      · cases he
  · cases he

end
end Go.Ev
