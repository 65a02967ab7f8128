/-
  Eight words that come in as an array, opened, and as a row of the call's own; no condition.
-/
import Derived.Test.YtkobgejeapcfkaaNkG
import Derived.Test.YtkobgejeapcfkaaNkQ
namespace Go.Proofs.Ytkobgejeapcfkaa
open Go.RowKit Go.WideShapes Go.ChangeShapes Go.ChangeAt Go.Deep Go.Joins
set_option linter.all false
section
variable {H : Type} {enc : TypeId × Value → H}
theorem okWide_arr {P : Program} {w : World} {r : Reach} {base n : Nat} {t e : TypeId} {v : Value} (ht : P.underlying t = some (.array n e)) (h : Value.okWide P w r base t v) : ∃ cs, v = .agg cs ∧ cs.size = P.cellsOf t := by
  unfold Value.okWide at h
  rw [ht] at h
  obtain ⟨cs, e, hs, _⟩ := h
  exact ⟨cs, e, hs⟩
theorem open_words8 {W : World} {v : Value} {d : DataW H} {pl : List MemPlace} {base : Nat} (hok : Value.okWide Try.prog W .any base 37 v) (h : DataW.Trod enc Try.prog W 0 (fun _ => true) true 37 v d pl) :
    ∃ xs : List Int, v = .agg (u64s xs).toArray ∧ xs.length = 8 ∧ W64 xs := by
  obtain ⟨cs, rfl, hsz⟩ := okWide_arr Try.underlying37 hok
  have c37 : Try.prog.cellsOf 37 = 8 := by kernel_rfl
  have c28 : Try.prog.cellsOf 28 = 1 := by kernel_rfl
  rw [c37] at hsz
  obtain ⟨fuel, hf⟩ := h
  obtain ⟨ys, m, rfl, _, _, hyl, hel⟩ := DataW.trod_array Try.underlying37 hf
  have hcell : ∀ i, i < 8 → ∃ z : Int, cs[i]? = some (.int .u64 z) ∧ (Lit.int .u64 z).wf = true := by
    intro i hi
    have h1 := hel i hi
    rw [List.getElem?_eq_getElem (by omega)] at h1
    obtain ⟨z, e1, _, hw⟩ := DataW.trod_int Try.underlying28 h1
    refine ⟨z, ?_, hw⟩
    rw [c28] at e1
    have e2 := congrArg (fun l => l[0]?) e1
    simp [Value.cells, List.getElem?_take, List.getElem?_drop] at e2
    exact e2
  have hz : ∃ f : Nat → Int, ∀ i, i < 8 → cs[i]? = some (.int .u64 (f i)) ∧ (Lit.int .u64 (f i)).wf = true := by
    refine ⟨fun i => if h : i < 8 then Classical.choose (hcell i h) else 0, fun i hi => ?_⟩
    simp only [dif_pos hi]
    exact Classical.choose_spec (hcell i hi)
  obtain ⟨f, hz⟩ := hz
  refine ⟨(List.range 8).map f, ?_, by simp, ?_⟩
  · congr 1
    apply Array.ext'
    apply List.ext_getElem?
    intro i
    by_cases hi : i < 8
    · have := (hz i hi).1
      rw [Array.getElem?_toList, this]
      simp [u64s, hi]
    · rw [List.getElem?_eq_none (by simp; omega), List.getElem?_eq_none (by simp [u64s]; omega)]
  · intro i
    by_cases hi : i < 8
    · have := bounds_u64 (hz i hi).2
      simp [hi]; omega
    · rw [List.getElem?_eq_none (by simp; omega)]; simp
end
theorem Blk.reads {w : World} {b : Nat} {ty : TypeId} {vs : List Value} (h : Blk w b ty vs.toArray) : Reads w w.heap.size 1 (some ⟨b, 0, none⟩) vs.length vs := by
  refine ⟨by simp, fun _ => ⟨_, rfl, h.lt, fun j u hu => ?_⟩⟩
  have e : (⟨b, 0, none⟩ : Addr).add j = ⟨b, j, none⟩ := by
    unfold Addr.add
    by_cases h0 : j = 0
    · subst h0; rfl
    · rw [if_neg h0]; simp
  rw [e, h.cell j]
  simpa using hu
end Go.Proofs.Ytkobgejeapcfkaa
