/-
  The law's Kids that come in as an argument, opened; no condition.
-/
import Derived.Test.YtononinmjijhoaaFr
import Derived.Lib.SmallJoins
namespace Go.Proofs.Ytononinmjijhoaa
open Go.RowKit Go.WideShapes Go.ChangeShapes Go.ChangeAt Go.Deep Go.Joins
set_option linter.all false
section
variable {H : Type} {enc : TypeId × Value → H}
theorem nums_of {W : World} {v : Value} {x : DataW H × List MemPlace} {fuel : Nat} {t e : TypeId} {k : IntKind} (ht : Try.prog.underlying t = some (.slice e)) (he : Try.prog.underlying e = some (.int k)) (hc : Try.prog.cellsOf e = 1)
    (hf : DataW.trod enc Try.prog W 0 (fun _ => true) true fuel t [v] = some x) :
    ∃ A len cap, ∃ xs : List Int, v = .slice A len cap ∧ Reads W W.heap.size 1 A len (xs.map (Value.int k)) ∧ (∀ n ∈ xs, (Lit.int k n).wf = true) ∧ len ≤ cap ∧ cap ≤ maxLen := by
  rcases open_ints ht he hc hf with ⟨hcs, hx⟩ | ⟨a, len, cap, zs, hcs, _, hl, hm, hz, hx, hcell, hwz⟩
  · simp only [List.cons.injEq, and_true] at hcs
    exact ⟨none, 0, 0, [], hcs, Reads.none_, by simp, Nat.le_refl _, Nat.zero_le _⟩
  · simp only [List.cons.injEq, and_true] at hcs
    simp only [if_true] at hz
    refine ⟨some a, len, cap, zs.take len, hcs, ⟨by simp; omega, fun hn => ⟨a, rfl, ?_, fun j u hu => ?_⟩⟩, fun n hn => hwz n (List.mem_of_mem_take hn), hl, hm⟩
    · have := blk_lt (hcell 0 (by omega))
      rw [block_of_add] at this; exact this
    · rw [List.getElem?_map] at hu
      have hj : j < len := by
        rcases Nat.lt_or_ge j len with h | h
        · exact h
        · rw [List.getElem?_eq_none (by simp; omega)] at hu; cases hu
      rw [List.getElem?_take, if_pos hj, List.getElem?_eq_getElem (by omega)] at hu
      injection hu with hu
      rw [hcell j (by omega), ← hu, List.getD_eq_getElem?_getD, List.getElem?_eq_getElem (by omega)]; rfl
theorem list5 {α : Type} {l : List α} (h : l.length = 5) : ∃ a b c d e, l = [a, b, c, d, e] := by
  match l, h with
  | [a, b, c, d, e], _ => exact ⟨a, b, c, d, e, rfl⟩
theorem open_kids {W : World} {v : Value} {d : DataW H} {pl : List MemPlace} {base : Nat} (hok : Value.okWide Try.prog W .any base 25 v) (h : DataW.Trod enc Try.prog W 0 (fun _ => true) true 25 v d pl) :
    ∃ (kk ww : Int) (pf : ByteArray) (A : Option Addr) (n c : Nat) (xs : List Int) (fr : Int), v = .agg #[.int .i64 kk, .int .u64 ww, .string pf, .slice A n c, .int .i64 fr] ∧ pf.size ≤ maxLen ∧ (Lit.int .u64 ww).wf = true ∧
      Reads W W.heap.size 1 A n (xs.map (Value.int .u8)) ∧ (∀ z ∈ xs, (Lit.int .u8 z).wf = true) ∧ n ≤ c ∧ c ≤ maxLen := by
  obtain ⟨cs, rfl, hsz⟩ := okWide_struct Try.underlying25 hok
  have c25 : Try.prog.cellsOf 25 = 5 := by kernel_rfl
  have k3 : Try.prog.cellsOf 3 = 1 := by kernel_rfl
  have k22 : Try.prog.cellsOf 22 = 1 := by kernel_rfl
  have k9 : Try.prog.cellsOf 9 = 1 := by kernel_rfl
  have k23 : Try.prog.cellsOf 23 = 1 := by kernel_rfl
  have k5 : Try.prog.cellsOf 5 = 1 := by kernel_rfl
  rw [c25] at hsz
  obtain ⟨l⟩ := cs
  obtain ⟨a0, a1, a2, a3, a4, rfl⟩ := list5 (show l.length = 5 from hsz)
  obtain ⟨fuel, hf⟩ := h
  obtain ⟨ys, m, _, _, _, hlen, hg⟩ := DataW.trod_struct Try.underlying25 hf
  obtain ⟨y0, y1, y2, y3, y4, rfl⟩ := list5 (show ys.length = 5 from hlen)
  have g0 := hg 0 _ rfl
  have g1 := hg 1 _ rfl
  have g2 := hg 2 _ rfl
  have g3 := hg 3 _ rfl
  have g4 := hg 4 _ rfl
  simp [Value.cells, k3, k22, k9, k23] at g0 g1 g2 g3 g4
  obtain ⟨z0, e0, _, _⟩ := DataW.trod_int Try.underlying3 g0
  obtain ⟨z1, e1, _, hw1⟩ := DataW.trod_int Try.underlying22 g1
  obtain ⟨s2, e2, _, hs2⟩ := DataW.trod_string Try.underlying9 g2
  obtain ⟨A, n, c, xs, e3, hr, hwf, hl, hm⟩ := nums_of Try.underlying23 Try.underlying5 k5 g3
  obtain ⟨z4, e4, _, _⟩ := DataW.trod_int Try.underlying3 g4
  simp only [List.cons.injEq, and_true] at e0 e1 e2 e4
  subst e0 e1 e2 e3 e4
  exact ⟨z0, z1, s2, A, n, c, xs, z4, rfl, hs2, hw1, hr, hwf, hl, hm⟩
end
end Go.Proofs.Ytononinmjijhoaa
