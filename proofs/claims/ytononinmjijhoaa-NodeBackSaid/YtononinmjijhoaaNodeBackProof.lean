/-
  The law NodeBack.
-/
import Derived.Test.YtononinmjijhoaaRows
import Derived.WalkKit
import Derived.ProofKit
import Derived.OpenShut
import Derived.ChangeMaps5
import Derived.Test.YtononinmjijhoaaFr
import Derived.Test.YtononinmjijhoaaNeB
import Derived.Test.YtononinmjijhoaaNdk
import Derived.Test.YtononinmjijhoaaBase
namespace Go.Proofs.Ytononinmjijhoaa.nodeBack
open Go.ChangeShapes Go.WideShapes Go.ChangeAt Go.RowKit
open Go.ChangeMaps (open_string shut_string)
set_option linter.all false
set_option linter.unusedVariables false

theorem own : ownKnob Try.prog.godebug = none := by kernel_rfl

theorem byt1 {z : Int} (h : (Lit.int .u8 z).wf = true) : 0 ≤ z ∧ z < 256 := by
  have e1 : IntKind.u8.min = 0 := by decide
  have e2 : IntKind.u8.max = 255 := by decide
  simp [Lit.wf, e1, e2] at h; omega
theorem w64 {z : Int} (h : (Lit.int .u64 z).wf = true) : 0 ≤ z ∧ z < 18446744073709551616 := by
  have e1 : IntKind.u64.min = 0 := by decide
  have e2 : IntKind.u64.max = 18446744073709551615 := by decide
  simp [Lit.wf, e1, e2] at h; omega
theorem walk (w : World) (kk0 ww0 : Int) (pf0 : ByteArray) (A0 : Option Addr) (n0 c0 : Nat) (x0 : List Int) (fr0 : Int) (p0 : pf0.size ≤ maxLen) (u0 : (Lit.int .u64 ww0).wf = true) (r0 : Reads w w.heap.size 1 A0 n0 (x0.map (Value.int .u8))) (f0 : ∀ z ∈ x0, (Lit.int .u8 z).wf = true) (l0 : n0 ≤ c0) (m0 : c0 ≤ maxLen) (kk1 ww1 : Int) (pf1 : ByteArray) (A1 : Option Addr) (n1 c1 : Nat) (x1 : List Int) (fr1 : Int) (p1 : pf1.size ≤ maxLen) (u1 : (Lit.int .u64 ww1).wf = true) (r1 : Reads w w.heap.size 1 A1 n1 (x1.map (Value.int .u8))) (f1 : ∀ z ∈ x1, (Lit.int .u8 z).wf = true) (l1 : n1 ≤ c1) (m1 : c1 ≤ maxLen) :
    Calls Try.prog 7 #[.agg #[.int .i64 kk0, .int .u64 ww0, .string pf0, .slice A0 n0 c0, .int .i64 fr0], .agg #[.int .i64 kk1, .int .u64 ww1, .string pf1, .slice A1 n1 c1, .int .i64 fr1]] w fun e w' => e = .returned (.bool true) ∧ Below w.heap.size w w' :=
  back_any kk0 ww0 pf0 A0 n0 c0 x0 fr0 kk1 ww1 pf1 A1 n1 c1 x1 fr1 w r0 (fun z hz => byt1 (f0 z hz)) (Nat.le_trans l0 m0) p0 (w64 u0).1 (w64 u0).2 r1 (fun z hz => byt1 (f1 z hz)) (Nat.le_trans l1 m1) p1 (w64 u1).1 (w64 u1).2

/-! ### THE ROW's STEP: WRITTEN OUT: LEAVE IT -/
set_option maxRecDepth 100000 in
theorem lifted (os : Os) (started : os.Started) (H : Type) (enc : TypeId × Value → H) :
    ReturnsInHanded {} Try.checked os 7 .any (Rows.nodeBackSpec.pre6 enc Try.prog Try.f7 Rows.nodeBackRow.domain false) (Rows.nodeBackSpec.post enc Try.prog Try.f7 false true false false) := by
  refine returnsInHanded_of_change (C := Try.checked) own started (by kernel_rfl) Try.func7
    (ChangeSpec.witness6 (enc := enc) (C := Try.checked) false ⟨#[], #[.agg #[.int .i64 0, .int .u64 0, .string ⟨#[]⟩, .slice none 0 0, .int .i64 0], .agg #[.int .i64 0, .int .u64 0, .string ⟨#[]⟩, .slice none 0 0, .int .i64 0]], []⟩ 8 (by kernel_rfl) (by kernel_rfl) (by kernel_rfl) (by kernel_rfl)) ?_
  intro W base args ds gs before hval0 hW hcnd _
  have hval : ∀ (j : Nat) t v, Try.f7.params[j]? = some t → args[j]? = some v → Value.okWide Try.prog W .any base t v := hval0
  have hW' := hW
  have hlt0 : ∀ x ∈ before, x.block < W.heap.size := fun x hx => hW'.lt x hx
  obtain ⟨p, q, hA0, hV, rfl, hfz, hnd⟩ := hW
  have hA : DataW.TrodAll enc Try.prog W 0 (fun _ => true) true Try.f7.params.toList args.toList ds p := hA0
  have hAk : DataW.TrodAll enc Try.prog W 0 (fun _ => true) true Try.f7.params.toList args.toList ds p := hA0
  rw [Try.params7] at hA hval
  obtain ⟨v0, vs0, d0, ds0, p0, q0, hargs, rfl, hp, h0, y0⟩ := trodAll_cons hA
  obtain ⟨v1, vs1, d1, ds1, p1, q1, rfl, rfl, rfl, h1, y1⟩ := trodAll_cons y0
  obtain ⟨rfl, rfl, rfl⟩ := trodAll_nil y1
  obtain rfl : args = #[v0, v1] := by cases args; simp_all
  obtain ⟨rfl, rfl⟩ := trodVars_none hV
  obtain ⟨kk0, ww0, pf0, A0, n0, c0, x0, fr0, rfl, p0, u0, r0, f0, l0, m0⟩ := open_kids (hval 0 25 v0 rfl rfl) h0
  obtain ⟨kk1, ww1, pf1, A1, n1, c1, x1, fr1, rfl, p1, u1, r1, f1, l1, m1⟩ := open_kids (hval 1 25 v1 rfl rfl) h1
  clear hA0 hval0
  refine (walk W kk0 ww0 pf0 A0 n0 c0 x0 fr0 p0 u0 r0 f0 l0 m0 kk1 ww1 pf1 A1 n1 c1 x1 fr1 p1 u1 r1 f1 l1 m1).mono fun e W' ⟨he, hg⟩ => ?_
  subst he
  have hlt1 : ∀ x ∈ p, x.block < W.heap.size := fun x hx => hlt0 x (by simp [hx])
  exact ⟨_, rfl, post_of_below (pa := p) (pv := []) hW' (fun _ _ _ => (trodAll_cons_mk (shut_bool Try.underlying4 _) trodAll_mk0)) (fun sp hsp => by
      have hR := reread_all hg sp (by rw [Try.params7]; simp only [List.mem_cons, List.not_mem_nil, or_false, forall_eq_or_imp, forall_eq]; exact ⟨⟨by kernel_rfl, of_decide_eq_true (by kernel_rfl)⟩, ⟨by kernel_rfl, of_decide_eq_true (by kernel_rfl)⟩⟩) hAk hlt1 (fun x hx => hsp x (by simp [hx]))
      exact hR) (fun _ _ => rfl) (by simp)
    hg (ok_one (by kernel_rfl) rfl (okWide_bool_mk Try.underlying4 _))⟩

set_option maxHeartbeats 200000000 in
set_option maxRecDepth 100000 in
theorem closed : joinedFacts Try.prog 7 Try.f7 Rows.nodeBackSpec Rows.nodeBackRow = true := by
  unfold joinedFacts
  simp only [Bool.and_eq_true]
  repeat' apply And.intro
  all_goals as_aux_lemma => kernel_rfl

theorem over : Rows.nodeBackRow.holds Try.pinned (OpenSpec.ofChange Rows.nodeBackSpec) :=
  OpenClaim.holds_of_wide 7 Try.f7 rfl rfl rfl rfl rfl rfl rfl ⟨rfl, rfl, rfl, rfl, rfl⟩ rfl rfl rfl rfl rfl (by kernel_rfl) Try.func7 closed
    (of_decide_eq_true (by kernel_rfl)) (by unfold Func.isWrapper; first | (rw [if_pos (by decide +kernel)]; kernel_rfl) | (rw [if_neg (by decide +kernel)]; exact ⟨rfl, rfl⟩))
    (fun os started H enc _ => lifted os started H enc)

/-- ████ THE STATEMENT ████ -/
theorem proved : Rows.NodeBackSaid :=
  over
#print axioms proved
end Go.Proofs.Ytononinmjijhoaa.nodeBack
