/-
  the list of blocks and the reference answer alike, whatever is asked
-/
import Derived.Test.YtokjeglhmmijfaaRows
import Derived.WalkKit
import Derived.ProofKit
import Derived.OpenShut
import Derived.ChangeMaps5
import Derived.Test.YtokjeglhmmijfaaFr
import Derived.Test.YtokjeglhmmijfaaPt3
import Derived.Test.YtokjeglhmmijfaaPt5
import Derived.Test.YtokjeglhmmijfaaBase
namespace Go.Proofs.Ytokjeglhmmijfaa
open Go.RowKit Go.WideShapes Go.ChangeShapes in
theorem plays_any (w : World) (A : Option Addr) (n c : Nat) (x : List Int) (A' : Option Addr) (n' c' : Nat) (F : Nat → Nat → Int) (r : Reads w w.heap.size 1 A n (x.map (Value.int .i64))) (hc : n ≤ c) (hm : c ≤ maxLen) (r' : Recs w A' n' 3 F) (hc' : n' ≤ c') (hm' : c' ≤ maxLen) :
    Calls Try.prog 9 #[.slice A n c, .slice A' n' c'] w fun e w' => e = .returned (.bool true) ∧ Below w.heap.size w w' := by
  by_cases h : n > 100
  · exact plays_gt w A n c x A' n' c' F r hc hm r' hc' hm' h
  · exact plays_le w A n c x A' n' c' F r hc hm r' hc' hm' h
end Go.Proofs.Ytokjeglhmmijfaa
namespace Go.Proofs.Ytokjeglhmmijfaa.postingPlays
open Go.ChangeShapes Go.WideShapes Go.ChangeAt Go.RowKit
open Go.ChangeMaps (open_string shut_string)
set_option linter.all false
set_option linter.unusedVariables false

theorem own : ownKnob Try.prog.godebug = none := by kernel_rfl

theorem walk (w : World) (A0 : Option Addr) (n0 c0 : Nat) (x0 : List Int) (r0 : Reads w w.heap.size 1 A0 n0 (x0.map (Value.int .i64))) (f0 : ∀ z ∈ x0, (Lit.int .i64 z).wf = true) (l0 : n0 ≤ c0) (m0 : c0 ≤ maxLen) (A1 : Option Addr) (n1 c1 : Nat) (F1 : Nat → Nat → Int) (r1 : Recs w A1 n1 3 F1) (l1 : n1 ≤ c1) (m1 : c1 ≤ maxLen) :
    Calls Try.prog 9 #[.slice A0 n0 c0, .slice A1 n1 c1] w fun e w' => e = .returned (.bool true) ∧ Below w.heap.size w w' :=
  plays_any w A0 n0 c0 x0 A1 n1 c1 F1 r0 l0 m0 r1 l1 m1

/-! ### THE ROW's STEP: WRITTEN OUT: LEAVE IT -/
set_option maxRecDepth 100000 in
theorem lifted (os : Os) (started : os.Started) (H : Type) (enc : TypeId × Value → H) :
    ReturnsInHanded {} Try.checked os 9 .any (Rows.postingPlaysSpec.pre6 enc Try.prog Try.f9 Rows.postingPlaysRow.domain false) (Rows.postingPlaysSpec.post enc Try.prog Try.f9 false true false false) := by
  refine returnsInHanded_of_change (C := Try.checked) own started (by kernel_rfl) Try.func9
    (ChangeSpec.witness6 (enc := enc) (C := Try.checked) false ⟨#[], #[.slice none 0 0, .slice none 0 0], []⟩ 8 (by kernel_rfl) (by kernel_rfl) (by kernel_rfl) (by kernel_rfl)) ?_
  intro W base args ds gs before hval0 hW hcnd _
  have hval : ∀ (j : Nat) t v, Try.f9.params[j]? = some t → args[j]? = some v → Value.okWide Try.prog W .any base t v := hval0
  have hW' := hW
  have hlt0 : ∀ x ∈ before, x.block < W.heap.size := fun x hx => hW'.lt x hx
  obtain ⟨p, q, hA0, hV, rfl, hfz, hnd⟩ := hW
  have hA : DataW.TrodAll enc Try.prog W 0 (fun _ => true) true Try.f9.params.toList args.toList ds p := hA0
  have hAk : DataW.TrodAll enc Try.prog W 0 (fun _ => true) true Try.f9.params.toList args.toList ds p := hA0
  rw [Try.params9] at hA hval
  obtain ⟨v0, vs0, d0, ds0, p0, q0, hargs, rfl, hp, h0, y0⟩ := trodAll_cons hA
  obtain ⟨v1, vs1, d1, ds1, p1, q1, rfl, rfl, rfl, h1, y1⟩ := trodAll_cons y0
  obtain ⟨rfl, rfl, rfl⟩ := trodAll_nil y1
  obtain rfl : args = #[v0, v1] := by cases args; simp_all
  obtain ⟨rfl, rfl⟩ := trodVars_none hV
  obtain ⟨A0, n0, c0, x0, rfl, r0, f0, l0, m0⟩ := open_nums (k := .i64) Try.underlying28 Try.underlying3 (by kernel_rfl) (hval 0 28 v0 rfl rfl) h0
  obtain ⟨A1, n1, c1, F1, rfl, r1, l1, m1⟩ := open_recs Try.underlying45 Try.underlying47 (by kernel_rfl) (by kernel_rfl) (by decide) (fun j f hj => by rcases j with _ | _ | _ | j <;> simp at hj <;> subst hj <;> exact Try.underlying3) (hval 1 45 v1 rfl rfl) h1
  clear hA0 hval0
  refine (walk W A0 n0 c0 x0 r0 f0 l0 m0 A1 n1 c1 F1 r1 l1 m1).mono fun e W' ⟨he, hg⟩ => ?_
  subst he
  have hlt1 : ∀ x ∈ p, x.block < W.heap.size := fun x hx => hlt0 x (by simp [hx])
  exact ⟨_, rfl, post_of_below (pa := p) (pv := []) hW' (fun _ _ _ => (trodAll_cons_mk (shut_bool Try.underlying4 _) trodAll_mk0)) (fun sp hsp => by
      have hR := reread_all hg sp (by rw [Try.params9]; simp only [List.mem_cons, List.not_mem_nil, or_false, forall_eq_or_imp, forall_eq]; exact ⟨⟨by kernel_rfl, of_decide_eq_true (by kernel_rfl)⟩, ⟨by kernel_rfl, of_decide_eq_true (by kernel_rfl)⟩⟩) hAk hlt1 (fun x hx => hsp x (by simp [hx]))
      exact hR) (fun _ _ => rfl) (by simp)
    hg (ok_one (by kernel_rfl) rfl (okWide_bool_mk Try.underlying4 _))⟩

set_option maxHeartbeats 200000000 in
set_option maxRecDepth 100000 in
theorem closed : joinedFacts Try.prog 9 Try.f9 Rows.postingPlaysSpec Rows.postingPlaysRow = true := by
  unfold joinedFacts
  simp only [Bool.and_eq_true]
  repeat' apply And.intro
  all_goals as_aux_lemma => kernel_rfl

theorem over : Rows.postingPlaysRow.holds Try.pinned (OpenSpec.ofChange Rows.postingPlaysSpec) :=
  OpenClaim.holds_of_wide 9 Try.f9 rfl rfl rfl rfl rfl rfl rfl ⟨rfl, rfl, rfl, rfl, rfl⟩ rfl rfl rfl rfl rfl (by kernel_rfl) Try.func9 closed
    (of_decide_eq_true (by kernel_rfl)) (by unfold Func.isWrapper; first | (rw [if_pos (by decide +kernel)]; kernel_rfl) | (rw [if_neg (by decide +kernel)]; exact ⟨rfl, rfl⟩))
    (fun os started H enc _ => lifted os started H enc)

/-- ████ THE STATEMENT ████ -/
theorem proved : Rows.PostingPlaysSaid :=
  over
#print axioms proved
end Go.Proofs.Ytokjeglhmmijfaa.postingPlays
