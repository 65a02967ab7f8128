/-
  Lists of entries (a text and a number) that read as lists; their order; no condition.
-/
import Derived.Test.YtgihflmjihnbkaaFr
import Derived.ChangeMaps5
namespace Go.Proofs.Ytgihflmjihnbkaa
open Go.RowKit Go.WideShapes Go.ChangeShapes Go.ChangeAt Go.Deep
open Go.ChangeMaps (open_string shut_string)
set_option linter.all false
abbrev En := ByteArray × Int
def d0 : En := (⟨#[]⟩, 0)
def rowE : List En → List Value
  | [] => []
  | e :: l => .string e.1 :: .int .i64 e.2 :: rowE l
theorem rowE_len : ∀ l : List En, (rowE l).length = l.length * 2
  | [] => rfl
  | e :: l => by simp only [rowE, List.length_cons, rowE_len l]; omega
theorem rowE_app : ∀ a b : List En, rowE (a ++ b) = rowE a ++ rowE b
  | [], b => rfl
  | e :: l, b => by simp only [List.cons_append, rowE, rowE_app l b]
theorem rowE_take : ∀ (l : List En) (k : Nat), rowE (l.take k) = (rowE l).take (k * 2)
  | [], k => by simp [rowE]
  | e :: l, 0 => by simp [rowE]
  | e :: l, k + 1 => by
    have : (k + 1) * 2 = k * 2 + 1 + 1 := by omega
    rw [this]
    simp only [List.take_succ_cons, rowE, rowE_take l k]
theorem rowE_drop : ∀ (l : List En) (k : Nat), rowE (l.drop k) = (rowE l).drop (k * 2)
  | [], k => by simp [rowE]
  | e :: l, 0 => by simp [rowE]
  | e :: l, k + 1 => by
    have : (k + 1) * 2 = k * 2 + 1 + 1 := by omega
    rw [this]
    simp only [List.drop_succ_cons, rowE, rowE_drop l k]
theorem rowE_0 : ∀ (l : List En) (k : Nat), k < l.length → (rowE l)[k * 2]? = some (.string (l.getD k d0).1)
  | [], k, h => by simp at h
  | e :: l, 0, h => rfl
  | e :: l, k + 1, h => by
    have : (k + 1) * 2 = k * 2 + 1 + 1 := by omega
    rw [this]
    simpa [rowE] using rowE_0 l k (by simpa using h)
theorem rowE_1 : ∀ (l : List En) (k : Nat), k < l.length → (rowE l)[k * 2 + 1]? = some (.int .i64 (l.getD k d0).2)
  | [], k, h => by simp at h
  | e :: l, 0, h => rfl
  | e :: l, k + 1, h => by
    have : (k + 1) * 2 + 1 = k * 2 + 1 + 1 + 1 := by omega
    rw [this]
    simpa [rowE] using rowE_1 l k (by simpa using h)
def Texts (l : List En) : Prop := ∀ e ∈ l, e.1.size ≤ maxLen
theorem Texts.get {l : List En} (h : Texts l) (k : Nat) : (l.getD k d0).1.size ≤ maxLen := by
  rw [List.getD_eq_getElem?_getD]
  cases hx : l[k]? with
  | none => exact Nat.zero_le _
  | some e => exact h e (List.mem_of_getElem? hx)
section
variable {H : Type} {enc : TypeId × Value → H}
def strAt : Value → ByteArray
  | .string s => s
  | _ => ⟨#[]⟩
set_option maxRecDepth 100000 in
theorem open_ents {W : World} {v : Value} {d : DataW H} {pl : List MemPlace} {base : Nat} {t e : TypeId} {f0 f1 : Field} (ht : Try.prog.underlying t = some (.slice e)) (he : Try.prog.underlying e = some (.struct #[f0, f1]))
    (ce : Try.prog.cellsOf e = 2) (o0 : f0.offset = 0) (o1 : f1.offset = 1) (u0 : Try.prog.underlying f0.type = some .string) (u1 : Try.prog.underlying f1.type = some (.int .i64)) (c0 : Try.prog.cellsOf f0.type = 1) (c1 : Try.prog.cellsOf f1.type = 1)
    (hok : Value.okWide Try.prog W .any base t v) (h : DataW.Trod enc Try.prog W 0 (fun _ => true) true t v d pl) :
    ∃ A len cap es, v = .slice A len cap ∧ Reads W W.heap.size 2 A len (rowE es) ∧ Texts es ∧ len ≤ cap ∧ cap ≤ maxLen := by
  obtain ⟨a0, len, cap, rfl⟩ := okWide_slice ht hok
  obtain ⟨fuel, hf⟩ := h
  rcases open_slice_pairs ht he ce o0 o1 c0 c1 hf with ⟨hcs, hx⟩ | ⟨a, len', cap', m, n, V0, V1, D0, D1, P0, P1, hcs, _, hl, hm, hz, hx, hcell⟩
  · simp [Value.cells] at hcs
    obtain ⟨rfl, rfl, rfl⟩ := hcs
    exact ⟨none, 0, 0, [], rfl, ⟨rfl, fun h => absurd h (by omega)⟩, fun e he => by simp at he, Nat.le_refl _, Nat.zero_le _⟩
  · simp [Value.cells] at hcs
    obtain ⟨rfl, rfl, rfl⟩ := hcs
    simp only [if_true] at hz
    have key : ∀ i, i < len → ∃ s z, W.cell? (a.add (i * 2)) = some (.string s) ∧ W.cell? (a.add (i * 2 + 1)) = some (.int .i64 z) ∧ s.size ≤ maxLen := by
      intro i hi
      obtain ⟨h0, h1, h2, h3⟩ := hcell i (by omega)
      obtain ⟨s, e0, _, hs⟩ := DataW.trod_string u0 h2
      obtain ⟨z, e1, _⟩ := DataW.trod_int u1 h3
      simp only [List.cons.injEq, and_true] at e0 e1
      exact ⟨s, z, by rw [h0, e0], by rw [h1, e1], hs⟩
    have key2 : ∀ k, k ≤ len → ∃ es : List En, es.length = k ∧ Texts es ∧ ∀ j u, (rowE es)[j]? = some u → W.cell? (a.add j) = some u := by
      intro k
      induction k with
      | zero => intro _; exact ⟨[], rfl, fun e he => by simp at he, fun j u hu => by simp [rowE] at hu⟩
      | succ k ih =>
        intro hk
        obtain ⟨es, hl', ht', hc'⟩ := ih (by omega)
        obtain ⟨s, z, hs, hz', hb⟩ := key k (by omega)
        refine ⟨es ++ [(s, z)], by simp [hl'], ?_, fun j u hu => ?_⟩
        · intro e he'
          rcases List.mem_append.1 he' with q | q
          · exact ht' e q
          · rw [List.mem_singleton] at q; subst q; exact hb
        · rw [rowE_app] at hu
          have hlen : (rowE es).length = k * 2 := by rw [rowE_len, hl']
          rcases Nat.lt_or_ge j (k * 2) with q | q
          · rw [List.getElem?_append_left (by omega)] at hu; exact hc' j u hu
          · rw [List.getElem?_append_right (by omega), hlen] at hu
            rcases (by omega : j = k * 2 ∨ j = k * 2 + 1 ∨ k * 2 + 2 ≤ j) with rfl | rfl | q2
            · simp [rowE] at hu; rw [← hu]; exact hs
            · have : k * 2 + 1 - k * 2 = 1 := by omega
              rw [this] at hu
              simp [rowE] at hu; rw [← hu]; exact hz'
            · rw [List.getElem?_eq_none (by simp [rowE]; omega)] at hu; cases hu
    obtain ⟨es, hl', ht', hc'⟩ := key2 len (Nat.le_refl _)
    refine ⟨some a, len, cap, es, rfl, ⟨by rw [rowE_len, hl'], fun hn => ⟨a, rfl, ?_, hc'⟩⟩, ht', hl, hm⟩
    obtain ⟨s, z, hs, _, _⟩ := key 0 (by omega)
    have := blk_lt hs
    rw [block_of_add] at this; exact this
end
end Go.Proofs.Ytgihflmjihnbkaa
