/-
  Lists of lists: as arguments, and of the call's own; Has; conditions: lengths.
-/
import Derived.Test.YthgjpdbajmfclaaMgf
import Derived.Test.YthgjpdbajmfclaaFr
namespace Go.Proofs.Ythgjpdbajmfclaa
open Go.RowKit Go.WideShapes Go.ChangeShapes Go.ChangeAt Go.Deep
set_option linter.all false
section
variable {H : Type} {enc : TypeId × Value → H}
theorem ints_reads {W : World} {t e : TypeId} {fuel : Nat} {cs : List Value} {x : DataW H × List MemPlace} (ht : Try.prog.underlying t = some (.slice e)) (he : Try.prog.underlying e = some (.int .i64)) (hc : Try.prog.cellsOf e = 1)
    (hf : DataW.trod enc Try.prog W 0 (fun _ => true) true fuel t cs = some x) : ∃ e : Ar, cs = [e.v] ∧ SI W W.heap.size e.A e.n e.c e.l := by
  rcases open_ints ht he hc hf with ⟨rfl, hx⟩ | ⟨a, len, cap, zs, rfl, _, hl, hm, hz, hx, hcell, hwz⟩
  · exact ⟨⟨none, 0, 0, []⟩, rfl, SI.nil _ _⟩
  · simp only [if_true] at hz
    refine ⟨⟨some a, len, cap, zs.take len⟩, rfl, hl, hm, (fun h => by cases h), ⟨by simp [ks]; omega, fun hn => ⟨a, rfl, ?_, fun j u hu => ?_⟩⟩⟩
    · have hn' : 0 < len := hn
      have := blk_lt (hcell 0 (by omega))
      rw [block_of_add] at this; exact this
    · unfold ks at hu
      rw [List.getElem?_map] at hu
      have hj : j < len := by
        rcases Nat.lt_or_ge j len with h | h
        · exact h
        · rw [List.getElem?_eq_none (by simp; omega)] at hu; cases hu
      rw [List.getElem?_take, if_pos hj, List.getElem?_eq_getElem (by omega)] at hu
      injection hu with hu
      rw [hcell j (by omega), ← hu, List.getD_eq_getElem?_getD, List.getElem?_eq_getElem (by omega)]; rfl
open Classical in
theorem list_of {n : Nat} {P : Nat → Ar → Prop} (h : ∀ i, i < n → ∃ e, P i e) : ∃ ls : List Ar, ls.length = n ∧ ∀ i, i < n → P i (ls.getD i dA) := by
  refine ⟨(List.range n).map fun i => if h' : i < n then Classical.choose (h i h') else dA, by simp, fun i hi => ?_⟩
  rw [List.getD_eq_getElem?_getD, List.getElem?_map, List.getElem?_range hi]
  simp only [Option.map_some, Option.getD_some, dif_pos hi]
  exact Classical.choose_spec (h i hi)
theorem getD_of_mem {ls : List Ar} {e : Ar} (h : e ∈ ls) : ∃ i, i < ls.length ∧ ls.getD i dA = e := by
  obtain ⟨i, hi, rfl⟩ := List.mem_iff_getElem.1 h
  exact ⟨i, hi, by rw [List.getD_eq_getElem?_getD, List.getElem?_eq_getElem hi]; rfl⟩
theorem open_lists {W : World} {v : Value} {d : DataW H} {pl : List MemPlace} {base : Nat} {t t' e : TypeId} (ht : Try.prog.underlying t = some (.slice t')) (ht' : Try.prog.underlying t' = some (.slice e)) (he : Try.prog.underlying e = some (.int .i64)) (hc : Try.prog.cellsOf e = 1) (hc' : Try.prog.cellsOf t' = 1)
    (hok : Value.okWide Try.prog W .any base t v) (h : DataW.Trod enc Try.prog W 0 (fun _ => true) true t v d pl) :
    ∃ A n c ls, v = .slice A n c ∧ LL W W.heap.size A n c ls := by
  obtain ⟨a0, len, cap, rfl⟩ := okWide_slice ht hok
  obtain ⟨fuel, hf⟩ := h
  rcases open_slice ht hf with ⟨hcs, hx⟩ | ⟨a, len', cap', m, n, D, Pl, hcs, _, hl, hm, hmm, hx, hi⟩
  · simp [Value.cells] at hcs
    obtain ⟨rfl, rfl, rfl⟩ := hcs
    exact ⟨none, 0, 0, [], rfl, LL.none_ _ _⟩
  · simp [Value.cells] at hcs
    obtain ⟨rfl, rfl, rfl⟩ := hcs
    simp only [if_true] at hmm
    have key : ∀ i, i < len → ∃ e : Ar, W.cell? (a.add i) = some e.v ∧ SI W W.heap.size e.A e.n e.c e.l := by
      intro i hil
      obtain ⟨cs', hcc, htt⟩ := hi i (by omega)
      obtain ⟨e1, rfl, hs⟩ := ints_reads ht' he hc htt
      rw [hc'] at hcc
      obtain ⟨_, _, hat⟩ := World.cells?_some hcc
      refine ⟨e1, ?_, hs⟩
      have := hat 0 (by omega)
      rw [Go.Deep.add_add, Nat.mul_one, Nat.add_zero] at this
      exact this
    obtain ⟨ls, hls, hP⟩ := list_of key
    refine ⟨some a, len, cap, ls, rfl, hl, hm, (fun h => by cases h), ⟨by simp [hls], fun hn => ⟨a, rfl, ?_, fun j u hu => ?_⟩⟩, fun e' he' => ?_⟩
    · have := blk_lt (hP 0 hn).1
      rw [block_of_add] at this; exact this
    · rw [List.getElem?_map] at hu
      have hj : j < len := by
        rcases Nat.lt_or_ge j len with h | h
        · exact h
        · rw [List.getElem?_eq_none (by omega)] at hu; cases hu
      rw [List.getElem?_eq_getElem (by omega)] at hu
      injection hu with hu
      rw [(hP j hj).1, ← hu, List.getD_eq_getElem?_getD, List.getElem?_eq_getElem (by omega)]; rfl
    · obtain ⟨i, hi, rfl⟩ := getD_of_mem he'
      exact (hP i (by omega)).2
end
theorem LL.take {w : World} {B n c k : Nat} {A : Option Addr} {ls : List Ar} (h : LL w B A n c ls) (hk : k ≤ n) : LL w B A k c (ls.take k) := by
  refine ⟨by have := h.1; omega, h.2.1, fun e => by have := h.2.2.1 e; omega, ⟨?_, fun hk0 => ?_⟩, fun e he => h.2.2.2.2 e (List.mem_of_mem_take he)⟩
  · have := h.len
    rw [List.length_map, List.length_take]; omega
  · obtain ⟨ad, e, hb, hc⟩ := h.2.2.2.1.2 (by omega)
    refine ⟨ad, e, hb, fun j u hu => hc j u ?_⟩
    rw [List.getElem?_map] at hu ⊢
    rw [List.getElem?_take] at hu
    split at hu
    · exact hu
    · simp at hu
/-- An element that an append to a list of lists of the call's own leaves alone. -/
def EK (w : World) (N : Nat) (e : Ar) : Prop := SI w N e.A e.n e.c e.l ∨ ∃ N', Mid w N' 3 1 e.v e.n (ks .i64 e.l)
theorem EK.below {w w' : World} {N : Nat} {e : Ar} (h : EK w N e) (hN : N ≤ w.heap.size) (hb : Below w.heap.size w w') : EK w' N e := by
  rcases h with h | ⟨N', h⟩
  · exact .inl (h.below (hb.mono hN))
  · exact .inr ⟨N', h.same fun g hg => hb.block g (h.lt g hg).2⟩
theorem EK.ran {w w' : World} {N n : Nat} {V V' : Value} {xs : List Value} {e : Ar} (h : EK w N e) (hN : N ≤ w.heap.size) (hV : Mid w N 22 1 V n xs) (hr : Ran V V' w w') : EK w' N e := by
  rcases h with h | ⟨N', h⟩
  · exact .inl (h.below ((Below.refl _ _).grown hr.grown hN (fun g hg => (hV.lt g hg).1)))
  · exact .inr ⟨N', h.on_ran hV (by decide) hr⟩
theorem EK.si {w : World} {N : Nat} {e : Ar} (h : EK w N e) (hN : N ≤ w.heap.size) : SI w w.heap.size e.A e.n e.c e.l := by
  rcases h with h | ⟨N', h⟩
  · exact h.more hN
  · exact h.si
/-- A list of lists of the call's own. -/
structure OL (w : World) (N : Nat) (V : Value) (own : List Ar) : Prop where
  row : Mid w N 22 1 V own.length (own.map Ar.v)
  els : ∀ e ∈ own, EK w N e
  le : N ≤ w.heap.size
theorem OL.nil (w : World) : OL w w.heap.size (.slice none 0 0) [] := ⟨Mid.nil _ _ _ _, by simp, Nat.le_refl _⟩
theorem OL.below {w w' : World} {N : Nat} {V : Value} {own : List Ar} (h : OL w N V own) (hb : Below w.heap.size w w') : OL w' N V own :=
  ⟨h.row.same fun g hg => hb.block g (h.row.lt g hg).2, fun e he => (h.els e he).below h.le hb, Nat.le_trans h.le hb.size⟩
theorem OL.ll {w : World} {N n c : Nat} {A : Option Addr} {own : List Ar} (h : OL w N (.slice A n c) own) (hn : own.length = n) : LL w w.heap.size A n c own := by
  subst hn
  exact ⟨h.row.room.1, h.row.room.2, fun e => by have := h.row.nocap e; have := h.row.room.1; omega, h.row.reads, fun e he => (h.els e he).si h.le⟩
/-- One more element. -/
theorem OL.snoc {w w' : World} {N : Nat} {V V' : Value} {own : List Ar} {e : Ar} (h : OL w N V own) (he : EK w N e) (hm : Mid w' N 22 1 V' (own.length + 1) (own.map Ar.v ++ [e.v])) (hr : Ran V V' w w') : OL w' N V' (own ++ [e]) := by
  refine ⟨by rw [List.length_append, List.map_append]; exact hm, fun x hx => ?_, Nat.le_trans h.le hr.grown.size⟩
  rw [List.mem_append, List.mem_singleton] at hx
  rcases hx with hx | rfl
  · exact (h.els x hx).ran h.le h.row hr
  · exact he.ran h.le h.row hr
set_option maxRecDepth 100000 in
set_option maxHeartbeats 800000 in
theorem has_any (B : Nat) (A : Option Addr) (n c : Nat) (l : List Int) (x : Int) (w : World) (h : SI w B A n c l) :
    Calls Try.prog 14 #[.slice A n c, .int .i64 x] w fun e w' => e = .returned (.bool (decide (x ∈ l))) ∧ w' = w := by
  have HS := Lib.hid h
  have HLN := Lib.hid h.len
  have hn9 := h.n9
  clear h
  go_enter Try.func14, Try.ntmps14
  go_wp2
  go_loopw [9] (fun i wr => ∃ k : Nat, i = .int .i64 k ∧ k ≤ n ∧ wr = w ∧ Hid (¬ x ∈ l.take k)) (fun i _ => n - (intOf i).toNat)
  case atStart => exact ⟨0, rfl, Nat.zero_le _, rfl, Lib.hid (by simp)⟩
  case round =>
    obtain ⟨k, rfl, hk, rfl, HN⟩ := hrel
    by_cases hlt : k < n
    · have hkl : k < l.length := by rw [HLN.out]; exact hlt
      obtain ⟨ad, rfl, h1⟩ := HS.out.2.2.2.kat hlt
      have HT : Hid (l.take (k + 1) = l.take k ++ [l.getD k 0]) := Lib.hid (by
        rw [List.take_succ_eq_append_getElem hkl, List.getD_eq_getElem?_getD, List.getElem?_eq_getElem hkl]; rfl)
      have HMEM : Hid (l.getD k 0 ∈ l) := Lib.hid (by rw [List.getD_eq_getElem?_getD, List.getElem?_eq_getElem hkl]; exact List.getElem_mem hkl)
      obtain ⟨y, hy⟩ : ∃ y, y = l.getD k 0 := ⟨_, rfl⟩
      rw [← hy] at h1 HT HMEM
      clear hy hkl
      by_cases hyx : y = x
      · have HX : Hid (x ∈ l) := Lib.hid (by rw [← hyx]; exact HMEM.out)
        go_wp2
        go_ret
        exact ⟨by rw [decide_eq_true HX.out]; rfl, by first | rfl | trivial⟩
      · go_wp2
        go_roundw
        case rel => exact ⟨k + 1, by go_num, by omega, by trivial, Lib.hid (by rw [HT.out, List.mem_append, List.mem_singleton]; rintro (h | h); exact HN.out h; exact hyx h.symm)⟩
        case measure => simp only [intOf]; omega
    · obtain rfl : n = k := by omega
      have hno : ¬ x ∈ l := by have := HN.out; rw [List.take_of_length_le (by rw [HLN.out]; exact Nat.le_refl _)] at this; exact this
      have HNO := Lib.hid hno
      clear hno
      go_wp2
      go_ret
      exact ⟨by rw [decide_eq_false HNO.out]; rfl, rfl⟩
end Go.Proofs.Ythgjpdbajmfclaa
