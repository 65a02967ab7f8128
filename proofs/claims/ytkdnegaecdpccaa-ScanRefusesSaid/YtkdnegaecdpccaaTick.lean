/-
  The law TickRefuses, and what a new tick is: walked, a part reckoned by a verified evaluator; no condition.
-/
import Derived.Test.YtkdnegaecdpccaaBase
import Derived.Test.YtkdnegaecdpccaaEvP
import Derived.Test.YtkdnegaecdpccaaStr
import Derived.WalkLawsBesides
import Derived.Laws.Concat
import Derived.BigFrame
import Derived.BigRegion
import Derived.Laws.Small
import Derived.Laws.Cover1
import Derived.Laws.Slices
import Derived.Laws.Strings
import Derived.Laws.StructEq
namespace Go.Proofs.Ytkdnegaecdpccaa
open Go.RowKit Go.WideShapes Go.ChangeShapes
set_option linter.all false
set_option maxRecDepth 1000000
def tRows : List Ev.BRow := [⟨.lss, tk 0, num 1, .bool false⟩, ⟨.gtr, tk 0, num 8, .bool false⟩]
theorem tick_ev : Ev.isNew (@Ev.runF (Ev.tabSym tRows [] []) Try.prog (Ev.orcOf [] [] []) 4000 (.fn 6 [.agg #[num 5, .string ⟨#[]⟩, .string ⟨#[]⟩, num 0], tk 0] Ev.st0)) = true := by kernel_rfl
section
variable [Ev.Tok] [Ev.Sym]
theorem c_lss {x y : Value} {a b : Int} {e : Bool} (h : decide (a < b) = e) (hx : ∀ γ, Ev.ren γ x = .int .i64 a) (hy : ∀ γ, Ev.ren γ y = .int .i64 b) : (Ev.BRow.mk .lss x y (.bool e)).ok Try.prog :=
  Ev.brow_int (k := .i64) (a := a) (b := b) rfl hx hy (u := .bool (decide (a < b))) rfl (fun γ => by rw [h]; rfl) trivial
theorem c_gtr {x y : Value} {a b : Int} {e : Bool} (h : decide (a > b) = e) (hx : ∀ γ, Ev.ren γ x = .int .i64 a) (hy : ∀ γ, Ev.ren γ y = .int .i64 b) : (Ev.BRow.mk .gtr x y (.bool e)).ok Try.prog :=
  Ev.brow_int (k := .i64) (a := a) (b := b) rfl hx hy (u := .bool (decide (a > b))) rfl (fun γ => by rw [h]; rfl) trivial
end
theorem tickNew_ok (n : Int) (h1 : 1 ≤ n) (h2 : n ≤ 8) (w : World) : Calls Try.prog 6 #[.agg #[.int .i64 5, .string ⟨#[]⟩, .string ⟨#[]⟩, .int .i64 0], .int .i64 n] w fun e w' => ∃ p, e = .returned (.tuple #[.pointer (some p), .int .i64 0]) ∧ Below w.heap.size w w' := by
  letI : Ev.Tok := ⟨fun _ => n, fun _ => ByteArray.empty⟩
  letI : Ev.Sym := Ev.noSym
  have hr : ∀ r ∈ tRows, r.ok Try.prog := by
    intro r hr
    simp only [tRows, List.mem_cons, List.not_mem_nil, or_false] at hr
    rcases hr with rfl | rfl
    · exact c_lss (a := n) (b := 1) (decide_eq_false (by omega)) (fun _ => rfl) (fun _ => rfl)
    · exact c_gtr (a := n) (b := 8) (decide_eq_false (by omega)) (fun _ => rfl) (fun _ => rfl)
  exact @Ev.calls_new _ (Ev.tabSym tRows [] []) Try.prog _ (Ev.tabSym_ok hr (by simp) (by simp)) (Ev.orcOf_ok (by simp) (by simp) (by simp)) mixed 4000 6 [.agg #[num 5, .string ⟨#[]⟩, .string ⟨#[]⟩, num 0], tk 0] (by simp [Ev.Wf, Ev.WfL, num, tk]) tick_ev w
set_option maxHeartbeats 400000 in
theorem tickNew_no (k : Int) (t u : ByteArray) (v n : Int) (w : World) (h : ¬ (k = 5 ∧ t.toList = [] ∧ u.toList = [] ∧ v = 0 ∧ 1 ≤ n ∧ n ≤ 8)) : Calls Try.prog 6 #[.agg #[.int .i64 k, .string t, .string u, .int .i64 v], .int .i64 n] w fun e w' => e = .returned (.tuple #[.pointer none, .int .i64 1]) ∧ Below w.heap.size w w' := by
  go_enter Try.func6, Try.ntmps6
  have H : Hid (¬ (k = 5 ∧ t.toList = [] ∧ u.toList = [] ∧ v = 0 ∧ 1 ≤ n ∧ n ≤ 8)) := h
  clear h
  go_wp2
  all_goals first
    | (exact (H.out ⟨by assumption, by assumption, by assumption, by assumption, by omega, by omega⟩).elim)
    | (go_ret2; exact ⟨rfl, (Below.refl _ _).alloc (Nat.le_refl _) _⟩)
theorem after {a b c : World} (h : Below a.heap.size a b) (k : Below b.heap.size b c) : Below a.heap.size a c := h.trans (k.mono h.size)
theorem undrew {w w' : World} (hb : Below w.drew.heap.size w.drew w') : Below w.heap.size w w' := ⟨hb.os, hb.tape, hb.output, hb.size, hb.block⟩
theorem toList_nil {t : ByteArray} (h : t.toList = []) : t = ⟨#[]⟩ := by
  rw [ByteArray.toList_eq] at h
  exact ByteArray.ext (Array.toList_inj.1 h)
set_option maxHeartbeats 4000000 in
theorem tickR_ok (n : Int) (runs : ∀ w, Calls Try.prog 7 #[] w fun e w' => e = .returned (.bool true) ∧ Below w.heap.size w w') (w : World) (h1 : 1 ≤ n) (h2 : n ≤ 8) :
    Calls Try.prog 3 #[.string ⟨#[]⟩, .string ⟨#[]⟩, .int .i64 0, .int .i64 n] w fun e w' => e = .returned (.bool true) ∧ Below w.heap.size w w' := by
  go_enter Try.func3, Try.ntmps3
  have F1 : Hid True := trivial
  go_wp2_with (first
    | (go_at_call 6; clear F1; refine (tickNew_ok _ h1 h2 _).mono ?_; rintro e w1 ⟨p, rfl, hb1⟩)
    | (go_at_call 6; refine (tickNew_no _ _ _ _ _ _ (by simp)).mono ?_; rintro e w2 ⟨rfl, hb2⟩)
    | (go_at_call 7; refine (runs _).mono ?_; rintro e w3 ⟨rfl, hb3⟩)
    | go_in)
  all_goals first
    | (go_ret; exact ⟨rfl, after (after hb1 hb2) hb3⟩)
set_option maxHeartbeats 4000000 in
theorem tickR_no (t u : ByteArray) (v n : Int) (runs : ∀ w, Calls Try.prog 7 #[] w fun e w' => e = .returned (.bool true) ∧ Below w.heap.size w w') (w : World) (h : ¬ (5 = (5 : Int) ∧ t.toList = [] ∧ u.toList = [] ∧ v = 0 ∧ 1 ≤ n ∧ n ≤ 8)) :
    Calls Try.prog 3 #[.string t, .string u, .int .i64 v, .int .i64 n] w fun e w' => e = .returned (.bool true) ∧ Below w.heap.size w w' := by
  go_enter Try.func3, Try.ntmps3
  have H : Hid (¬ (5 = (5 : Int) ∧ t.toList = [] ∧ u.toList = [] ∧ v = 0 ∧ 1 ≤ n ∧ n ≤ 8)) := h
  clear h
  have F1 : Hid True := trivial
  go_wp2_with (first
    | (go_at_call 6; clear F1; refine (tickNew_no _ _ _ _ _ _ H.out).mono ?_; rintro e w1 ⟨rfl, hb1⟩)
    | (go_at_call 6; refine (tickNew_no _ _ _ _ _ _ (by simp)).mono ?_; rintro e w2 ⟨rfl, hb2⟩)
    | (go_at_call 7; refine (runs _).mono ?_; rintro e w3 ⟨rfl, hb3⟩)
    | go_in)
  all_goals first
    | (exact (H.out ⟨by first | rfl | trivial, by assumption, by assumption, by assumption, by omega, by omega⟩).elim)
    | (go_ret; exact ⟨rfl, after (after hb1 hb2) hb3⟩)
    | (go_ret; refine ⟨?_, after (after hb1 hb2) hb3⟩; show Ending.returned (Value.bool (!decide (n ≤ 8))) = _; rw [decide_eq_false (by omega)]; rfl)
theorem tickR_any (t u : ByteArray) (v n : Int) (runs : ∀ w, Calls Try.prog 7 #[] w fun e w' => e = .returned (.bool true) ∧ Below w.heap.size w w') (w : World) :
    Calls Try.prog 3 #[.string t, .string u, .int .i64 v, .int .i64 n] w fun e w' => e = .returned (.bool true) ∧ Below w.heap.size w w' := by
  by_cases h : (5 = (5 : Int) ∧ t.toList = [] ∧ u.toList = [] ∧ v = 0 ∧ 1 ≤ n ∧ n ≤ 8)
  · obtain ⟨_, h1, h2, rfl, h3, h4⟩ := h
    rw [toList_nil h1, toList_nil h2]
    exact tickR_ok n runs w h3 h4
  · exact tickR_no t u v n runs w h
end Go.Proofs.Ytkdnegaecdpccaa
