/-
  Arguments that come in, read again behind a call that leaves all that was as it was; lists of numbers and of pairs opened; no condition.
-/
import Derived.Test.YtndmpdpmfieacaaChecked
import Derived.Test.YtndmpdpmfieacaaRd
import Derived.Test.YtndmpdpmfieacaaArC
import Derived.WalkKit
import Derived.ProofKit
import Derived.OpenShut
import Derived.Below
import Derived.Carry
import Derived.ChangeSame
import Derived.ChangeSlices
import Derived.Deep.SlicePairs
import Derived.Deep.Fields
namespace Go.Proofs.Ytndmpdpmfieacaa
open Go.RowKit Go.WideShapes Go.ChangeShapes Go.ChangeAt Go.Deep
set_option linter.all false
section
variable {H : Type} {enc : TypeId × Value → H}
theorem laid_out : laidOutB Try.prog = true := by kernel_rfl
theorem reread_all {W W' : World} (hb : Below W.heap.size W W') (sp : Nat → Bool) : ∀ {ts : List TypeId} {vs : List Value} {ds : List (DataW H)} {ps : List MemPlace}, (∀ t ∈ ts, Try.prog.readableRec t = true ∧ t < Try.prog.types.size) →
    DataW.TrodAll enc Try.prog W 0 (fun _ => true) true ts vs ds ps → (∀ x ∈ ps, x.block < W.heap.size) → (∀ x ∈ ps, sp x.block = true) → DataW.TrodAll enc Try.prog W' 0 sp true ts vs ds ps
  | [], [], [], _, _, h, _, _ => h
  | _ :: _, _ :: _, _ :: _, _, hT, ⟨p, q, h1, h2, e⟩, hlt, hs =>
    ⟨p, q, WideElems.Trod_stays laid_out (hT _ (List.mem_cons_self)).1 (hT _ (List.mem_cons_self)).2 h1 (fun x hx => hb.same (hlt x (by rw [e]; exact List.mem_append_left _ hx))) (fun x hx => hs x (by rw [e]; exact List.mem_append_left _ hx)),
      reread_all hb sp (fun t ht => hT t (List.mem_cons_of_mem _ ht)) h2 (fun x hx => hlt x (by rw [e]; exact List.mem_append_right _ hx)) (fun x hx => hs x (by rw [e]; exact List.mem_append_right _ hx)), e⟩
theorem blk_lt {w : World} {a : Addr} {v : Value} (h : w.cell? a = some v) : a.block < w.heap.size := World.block_lt_of_cell? w a h
set_option maxRecDepth 100000 in
/-- A list of numbers of one kind. -/
theorem open_nums {W : World} {v : Value} {d : DataW H} {pl : List MemPlace} {base : Nat} {t e : TypeId} {k : IntKind} (ht : Try.prog.underlying t = some (.slice e)) (he : Try.prog.underlying e = some (.int k)) (hc : Try.prog.cellsOf e = 1)
    (hok : Value.okWide Try.prog W .any base t v) (h : DataW.Trod enc Try.prog W 0 (fun _ => true) true t v d pl) :
    ∃ A len cap, ∃ xs : List Int, v = .slice A len cap ∧ Reads W W.heap.size 1 A len (xs.map (Value.int k)) ∧ (∀ n ∈ xs, (Lit.int k n).wf = true) ∧ len ≤ cap ∧ cap ≤ maxLen := by
  obtain ⟨a0, len, cap, rfl⟩ := okWide_slice ht hok
  obtain ⟨fuel, hf⟩ := h
  rcases open_ints ht he hc hf with ⟨hcs, hx⟩ | ⟨a, len', cap', zs, hcs, _, hl, hm, hz, hx, hcell, hwz⟩
  · simp [Value.cells] at hcs
    obtain ⟨rfl, rfl, rfl⟩ := hcs
    exact ⟨none, 0, 0, [], rfl, Reads.none_, by simp, Nat.le_refl _, Nat.zero_le _⟩
  · simp [Value.cells] at hcs
    obtain ⟨rfl, rfl, rfl⟩ := hcs
    simp only [if_true] at hz
    refine ⟨some a, len, cap, zs.take len, rfl, ⟨by simp; omega, fun hn => ⟨a, rfl, ?_, fun j u hu => ?_⟩⟩, fun n hn => hwz n (List.mem_of_mem_take hn), hl, hm⟩
    · have := blk_lt (hcell 0 (by omega))
      rw [block_of_add] at this; exact this
    · rw [List.getElem?_map] at hu
      have hj : j < len := by
        rcases Nat.lt_or_ge j len with h | h
        · exact h
        · rw [List.getElem?_eq_none (by simp; omega)] at hu; cases hu
      rw [List.getElem?_take, if_pos hj, List.getElem?_eq_getElem (by omega)] at hu
      injection hu with hu
      rw [hcell j (by omega), ← hu, List.getD_eq_getElem?_getD, List.getElem?_eq_getElem (by omega)]; rfl
def numAt : Value → Int
  | .int _ z => z
  | _ => 0
/-- A list of pairs of numbers. -/
def Pairs (W : World) (A : Option Addr) (len : Nat) (F G : Nat → Int) : Prop :=
  ∀ i, i < len → ∃ ad, A = some ad ∧ ad.block < W.heap.size ∧ W.cell? (ad.add (i * 2)) = some (.int .i64 (F i)) ∧ W.cell? (ad.add (i * 2 + 1)) = some (.int .i64 (G i))
set_option maxRecDepth 100000 in
theorem open_pairs {W : World} {v : Value} {d : DataW H} {pl : List MemPlace} {base : Nat} {t e : TypeId} {f0 f1 : Field} (ht : Try.prog.underlying t = some (.slice e)) (he : Try.prog.underlying e = some (.struct #[f0, f1]))
    (ce : Try.prog.cellsOf e = 2) (o0 : f0.offset = 0) (o1 : f1.offset = 1) (u0 : Try.prog.underlying f0.type = some (.int .i64)) (u1 : Try.prog.underlying f1.type = some (.int .i64)) (c0 : Try.prog.cellsOf f0.type = 1) (c1 : Try.prog.cellsOf f1.type = 1)
    (hok : Value.okWide Try.prog W .any base t v) (h : DataW.Trod enc Try.prog W 0 (fun _ => true) true t v d pl) :
    ∃ A len cap F G, v = .slice A len cap ∧ Pairs W A len F G ∧ len ≤ cap ∧ cap ≤ maxLen := by
  obtain ⟨a0, len, cap, rfl⟩ := okWide_slice ht hok
  obtain ⟨fuel, hf⟩ := h
  rcases open_slice_pairs ht he ce o0 o1 c0 c1 hf with ⟨hcs, hx⟩ | ⟨a, len', cap', m, n, V0, V1, D0, D1, P0, P1, hcs, _, hl, hm, hz, hx, hcell⟩
  · simp [Value.cells] at hcs
    obtain ⟨rfl, rfl, rfl⟩ := hcs
    exact ⟨none, 0, 0, fun _ => 0, fun _ => 0, rfl, fun i hi => absurd hi (by omega), Nat.le_refl _, Nat.zero_le _⟩
  · simp [Value.cells] at hcs
    obtain ⟨rfl, rfl, rfl⟩ := hcs
    simp only [if_true] at hz
    refine ⟨some a, len, cap, fun i => numAt (V0 i), fun i => numAt (V1 i), rfl, fun i hi => ?_, hl, hm⟩
    obtain ⟨h0, h1, h2, h3⟩ := hcell i (by omega)
    obtain ⟨z0, e0, _⟩ := DataW.trod_int u0 h2
    obtain ⟨z1, e1, _⟩ := DataW.trod_int u1 h3
    simp only [List.cons.injEq, and_true] at e0 e1
    refine ⟨a, rfl, ?_, ?_, ?_⟩
    · have := blk_lt h0
      rw [block_of_add] at this; exact this
    · rw [h0]; simp only [e0]; rfl
    · rw [h1]; simp only [e1]; rfl
/-- A list of records of M numbers. -/
def Recs (W : World) (A : Option Addr) (len M : Nat) (F : Nat → Nat → Int) : Prop :=
  ∀ i, i < len → ∃ ad, A = some ad ∧ ad.block < W.heap.size ∧ ∀ j, j < M → W.cell? (ad.add (i * M + j)) = some (.int .i64 (F i j))
set_option maxRecDepth 100000 in
theorem open_recs {W : World} {v : Value} {d : DataW H} {pl : List MemPlace} {base : Nat} {t e : TypeId} {fs : Array Field} (ht : Try.prog.underlying t = some (.slice e)) (he : Try.prog.underlying e = some (.struct fs))
    (hone : oneCellFields Try.prog fs = true) (hC : Try.prog.cellsOf e = fs.size) (hp : 0 < fs.size) (hint : ∀ (j : Nat) (f : Field), fs[j]? = some f → Try.prog.underlying f.type = some (.int .i64))
    (hok : Value.okWide Try.prog W .any base t v) (h : DataW.Trod enc Try.prog W 0 (fun _ => true) true t v d pl) :
    ∃ A len cap F, v = .slice A len cap ∧ Recs W A len fs.size F ∧ len ≤ cap ∧ cap ≤ maxLen := by
  obtain ⟨a0, len, cap, rfl⟩ := okWide_slice ht hok
  obtain ⟨fuel, hf⟩ := h
  rcases open_slice ht hf with ⟨hcs, hx⟩ | ⟨a, len', cap', m, n, D, Pl, hcs, _, hl, hm, hmm, hx, hi⟩
  · simp [Value.cells] at hcs
    obtain ⟨rfl, rfl, rfl⟩ := hcs
    exact ⟨none, 0, 0, fun _ _ => 0, rfl, fun i hi => absurd hi (by omega), Nat.le_refl _, Nat.zero_le _⟩
  · simp [Value.cells] at hcs
    obtain ⟨rfl, rfl, rfl⟩ := hcs
    simp only [if_true] at hmm
    have key : ∀ i j, i < len → j < fs.size → ∃ z, W.cell? (a.add (i * fs.size + j)) = some (.int .i64 z) := by
      intro i j hil hjl
      obtain ⟨cs', hc, ht'⟩ := hi i (by omega)
      rw [hC] at hc
      obtain ⟨ys, n', _, _, hlen, hyl, hfd⟩ := DataW.trod_struct he ht'
      rw [hC] at hlen
      obtain ⟨_, _, hat⟩ := World.cells?_some hc
      have hj : fs[j]? = some (fs[j]'hjl) := Array.getElem?_eq_getElem hjl
      obtain ⟨ho, hk⟩ := hone_of hone j _ hj
      have h1 := hfd j _ hj
      rw [ho, hk, List.drop_eq_getElem_cons (by omega)] at h1
      rw [List.getElem?_eq_getElem (by omega)] at h1
      obtain ⟨z, e0, _⟩ := DataW.trod_int (hint j _ hj) h1
      simp only [List.take_succ_cons, List.take_zero, List.cons.injEq, and_true] at e0
      refine ⟨z, ?_⟩
      rw [← Go.Deep.add_add, hat j hjl, List.getElem?_eq_getElem (by omega), e0]
    refine ⟨some a, len, cap, fun i j => numAt ((W.cell? (a.add (i * fs.size + j))).getD undef), rfl, fun i hil => ⟨a, rfl, ?_, fun j hj => ?_⟩, hl, hm⟩
    · obtain ⟨z, hz⟩ := key i 0 hil hp
      have := blk_lt hz
      rw [block_of_add] at this; exact this
    · obtain ⟨z, hz⟩ := key i j hil hj
      show _ = some (Value.int .i64 (numAt ((W.cell? (a.add (i * fs.size + j))).getD undef)))
      rw [hz]; rfl
def boolAt : Value → Bool
  | .bool b => b
  | _ => false
set_option maxRecDepth 100000 in
/-- A list of truth values. -/
theorem open_bools {W : World} {v : Value} {d : DataW H} {pl : List MemPlace} {base : Nat} {t e : TypeId} (ht : Try.prog.underlying t = some (.slice e)) (he : Try.prog.underlying e = some .bool) (hc : Try.prog.cellsOf e = 1)
    (hok : Value.okWide Try.prog W .any base t v) (h : DataW.Trod enc Try.prog W 0 (fun _ => true) true t v d pl) :
    ∃ A len cap, ∃ xs : List Bool, v = .slice A len cap ∧ Reads W W.heap.size 1 A len (xs.map Value.bool) ∧ len ≤ cap ∧ cap ≤ maxLen := by
  obtain ⟨a0, len, cap, rfl⟩ := okWide_slice ht hok
  obtain ⟨fuel, hf⟩ := h
  rcases open_slice1 ht hc hf with ⟨hcs, hx⟩ | ⟨a, len', cap', m, n, V, D, Pl, hcs, _, hl, hm, hmm, hx, hi⟩
  · simp [Value.cells] at hcs
    obtain ⟨rfl, rfl, rfl⟩ := hcs
    exact ⟨none, 0, 0, [], rfl, Reads.none_, Nat.le_refl _, Nat.zero_le _⟩
  · simp [Value.cells] at hcs
    obtain ⟨rfl, rfl, rfl⟩ := hcs
    simp only [if_true] at hmm
    refine ⟨some a, len, cap, (List.range len).map fun i => boolAt (V i), rfl, ⟨by simp, fun hn => ⟨a, rfl, ?_, fun j u hu => ?_⟩⟩, hl, hm⟩
    · have := blk_lt (hi 0 (by omega)).1
      rw [block_of_add] at this; exact this
    · rw [List.getElem?_map, List.getElem?_map] at hu
      have hj : j < len := by
        rcases Nat.lt_or_ge j len with h | h
        · exact h
        · rw [List.getElem?_eq_none (by simp; omega)] at hu; cases hu
      rw [List.getElem?_range hj] at hu
      injection hu with hu
      obtain ⟨h1, h2⟩ := hi j (by omega)
      obtain ⟨b, e0, _⟩ := DataW.trod_bool he h2
      simp only [List.cons.injEq, and_true] at e0
      rw [h1, ← hu]
      show some (V j) = some (Value.bool (boolAt (V j)))
      rw [e0]; rfl
theorem okWide_arr {P : Program} {w : World} {r : Reach} {base n : Nat} {t e : TypeId} {v : Value} (ht : P.underlying t = some (.array n e)) (h : Value.okWide P w r base t v) : ∃ cs, v = .agg cs ∧ cs.size = P.cellsOf t := by
  unfold Value.okWide at h
  rw [ht] at h
  obtain ⟨cs, e, hs, _⟩ := h
  exact ⟨cs, e, hs⟩

set_option maxRecDepth 1000000 in
theorem open_five {W : World} {v : Value} {d : DataW H} {pl : List MemPlace} {base : Nat} (hok : Value.okWide Try.prog W .any base 22 v) (h : DataW.Trod enc Try.prog W 0 (fun _ => true) true 22 v d pl) :
    ∃ f : Nat → Int, v = .agg (five f) := by
  obtain ⟨cs, rfl, hsz⟩ := okWide_arr Try.underlying22 hok
  have c22 : Try.prog.cellsOf 22 = 5 := by kernel_rfl
  have c3 : Try.prog.cellsOf 3 = 1 := by kernel_rfl
  rw [c22] at hsz
  obtain ⟨fuel, hf⟩ := h
  obtain ⟨ys, m, rfl, _, _, hyl, hel⟩ := DataW.trod_array Try.underlying22 hf
  have hcell : ∀ i, i < 5 → ∃ z : Int, cs[i]? = some (.int .i64 z) := by
    intro i hi
    have h1 := hel i hi
    rw [List.getElem?_eq_getElem (by omega)] at h1
    obtain ⟨z, e1, _, hw⟩ := DataW.trod_int Try.underlying3 h1
    refine ⟨z, ?_⟩
    rw [c3] at e1
    have e2 := congrArg (fun l => l[0]?) e1
    simp [Value.cells, List.getElem?_take, List.getElem?_drop] at e2
    exact e2
  have hz : ∃ f : Nat → Int, ∀ i, i < 5 → cs[i]? = some (.int .i64 (f i)) := by
    refine ⟨fun i => if h : i < 5 then Classical.choose (hcell i h) else 0, fun i hi => ?_⟩
    simp only [dif_pos hi]
    exact Classical.choose_spec (hcell i hi)
  obtain ⟨f, hz⟩ := hz
  refine ⟨f, ?_⟩
  congr 1
  apply Array.ext
  · rw [hsz]; rfl
  · intro i h1 h2
    have h3 := hz i (by omega)
    rw [Array.getElem?_eq_getElem h1] at h3
    have h4 := five_at f (c := i) (by omega)
    rw [Array.getElem?_eq_getElem h2] at h4
    rw [← h3] at h4
    injection h4 with h4
    exact h4.symm
end
end Go.Proofs.Ytndmpdpmfieacaa
