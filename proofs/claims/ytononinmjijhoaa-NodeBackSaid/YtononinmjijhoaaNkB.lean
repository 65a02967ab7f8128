/-
  Blocks of words; no condition.
-/
import Derived.Test.YtononinmjijhoaaPk2
import Derived.Laws.CopyOwn
import Derived.Laws.Rows
import Derived.Lib.Hide
namespace Go.Proofs.Ytononinmjijhoaa
open Go.RowKit Go.WideShapes Go.ChangeShapes
set_option linter.all false
def Blk (w : World) (g : Nat) (t : TypeId) (cs : Array Value) : Prop := w.heap[g]? = some (.cells cs t (0, 0))

section
variable {w w' : World} {g : Nat} {t : TypeId} {cs : Array Value}
theorem Blk.lt (h : Blk w g t cs) : g < w.heap.size := by
  rcases Nat.lt_or_ge g w.heap.size with hlt | hge
  · exact hlt
  · unfold Blk at h; rw [Array.getElem?_eq_none hge] at h; cases h
theorem Blk.cell (h : Blk w g t cs) (i : Nat) : w.cell? ⟨g, i, none⟩ = cs[i]? := cell_of_row w g i cs t (0, 0) h
theorem Blk.frozen (h : Blk w g t cs) (i : Nat) : w.frozen? ⟨g, i, none⟩ = false := by
  unfold Blk at h
  simp [World.frozen?, h]
theorem Blk.new (w : World) (t : TypeId) (cs : Array Value) : Blk (w.alloc (.cells cs t)) w.heap.size t cs := heap_alloc_new w _
theorem Blk.drew (h : Blk w g t cs) : Blk w.drew g t cs := h
theorem Blk.drewN (h : Blk w g t cs) (n : Nat) : Blk (w.drewN n) g t cs := h
theorem Blk.alloc (h : Blk w g t cs) (o : Obj) : Blk (w.alloc o) g t cs := (Below.heap_alloc w o g h.lt).trans h
theorem Blk.set_ (h : Blk w g t cs) (i : Nat) (u : Value) : Blk (w.setCell ⟨g, i, none⟩ u) g t (cs.setIfInBounds i u) := by
  unfold Blk at h ⊢
  simp [World.setCell, Array.getElem?_modify, h]
theorem Blk.far (h : Blk w g t cs) {p : Addr} (hp : g ≠ p.block) (u : Value) : Blk (w.setCell p u) g t cs := (Below.heap_setCell w p u g hp).trans h
theorem Blk.below {B : Nat} (h : Blk w g t cs) (hb : Below B w w') (hg : g < B) : Blk w' g t cs := (hb.block g hg).trans h
theorem Blk.grown {row : Option Nat} (h : Blk w g t cs) (hb : w.grownBy w' row) (hg : some g ≠ row) : Blk w' g t cs := (hb.block g h.lt hg).trans h
theorem Blk.ne_ {g' : Nat} {t' : TypeId} {cs' : Array Value} (h : Blk w g t cs) (h' : Blk w g' t' cs') (hne : t ≠ t') : g ≠ g' := by
  rintro rfl
  unfold Blk at h h'
  rw [h] at h'
  injection h' with h'
  injection h' with _ ht
  exact hne ht
theorem own_blk_ne {base : Nat} {e : TypeId} {size n : Nat} {v : Value} {xs : List Value} (h : w.ownsRow base e size v n xs) (hg : Blk w g t cs) (hne : e ≠ t) : v.ownBlock ≠ some g := by
  rcases h.2 with ⟨rfl, _⟩ | ⟨g', cap, cur, rfl, _, hh, _⟩
  · simp [Value.ownBlock]
  · intro he
    have : g' = g := by simpa [Value.ownBlock] using he
    subst this
    exact Blk.ne_ (t := e) hh hg hne rfl
end

/-- Block g is just these words. -/
def WB (w : World) (g : Nat) (xs : List Int) : Prop := Blk w g 22 (u64s xs).toArray
theorem own_wb {w : World} {B g n : Nat} {xs : List Int} (h : w.ownsRow B 22 1 (sl g n) n (u64s xs)) : WB w g xs := by
  rcases h.2 with ⟨h', _⟩ | ⟨g', cap', cur, h', hb, hg, hnc, hcm, hcs, htake⟩
  · simp [sl] at h'
  · simp only [sl, Value.slice.injEq, Option.some.injEq, Addr.mk.injEq, and_true, true_and] at h'
    obtain ⟨rfl, rfl⟩ := h'
    have : cur = (u64s xs).toArray := by
      apply Array.ext'
      rw [← htake, List.take_of_length_le (by simp [hcs])]
    unfold WB Blk
    rw [hg, this]
theorem WB.cell {w : World} {g : Nat} {xs : List Int} (h : WB w g xs) (j : Nat) (hj : j < xs.length) : w.cell? ⟨g, j, none⟩ = some (.int .u64 (xs.getD j 0)) := by
  rw [Blk.cell h]
  simpa using u64s_get xs j hj
theorem WB.set_ {w : World} {g : Nat} {xs : List Int} (h : WB w g xs) (j : Nat) (u : Int) : WB (w.setCell ⟨g, j, none⟩ (.int .u64 u)) g (xs.set j u) := by
  have := Blk.set_ h j (.int .u64 u)
  unfold WB u64s at *
  rw [List.map_set]
  simpa using this
theorem WB.reads {w : World} {g : Nat} {xs : List Int} (h : WB w g xs) (B : Nat) (hB : g < B) (o n : Nat) (hn : o + n ≤ xs.length) : Reads w B 1 (some ⟨g, o, none⟩) n (u64s ((xs.drop o).take n)) := by
  refine ⟨by simp [u64s]; omega, fun _ => ⟨_, rfl, hB, fun j u hu => ?_⟩⟩
  have hl : j < ((xs.drop o).take n).length := by
    have := (List.getElem?_eq_some_iff.1 hu).1
    simpa [u64s] using this
  have e : (⟨g, o, none⟩ : Addr).add j = ⟨g, o + j, none⟩ := by unfold Addr.add; split <;> simp_all
  rw [e, h.cell (o + j) (by simp at hl; omega)]
  unfold u64s at hu
  rw [List.getElem?_map, List.getElem?_eq_getElem hl] at hu
  injection hu with hu
  rw [← hu, List.getElem_take, List.getElem_drop, List.getD_eq_getElem?_getD, List.getElem?_eq_getElem (by simp at hl; omega)]; rfl
theorem size28 : (Try.prog.info? 22).map (·.size) = some 1 := by kernel_rfl
theorem u64s_one (xs : List Int) : ∀ v ∈ u64s xs, v.oneCell' = true := by
  intro v hv
  unfold u64s at hv
  obtain ⟨x, _, rfl⟩ := List.mem_map.1 hv
  rfl
theorem Reads.on {w w' : World} {A : Option Addr} {n : Nat} {xs : List Int} (h : Reads w w.heap.size 1 A n (u64s xs)) (hb : Below w.heap.size w w') : Reads w' w'.heap.size 1 A n (u64s xs) := (h.below hb).more hb.size
theorem after {a b c : World} (h : Below a.heap.size a b) (k : Below b.heap.size b c) : Below a.heap.size a c := h.trans (k.mono h.size)
theorem own_lt {w : World} {B g n : Nat} {xs : List Int} (h : w.ownsRow B 22 1 (sl g n) n (u64s xs)) : g < w.heap.size := Blk.lt (own_wb h)
theorem WB.whole {w : World} {g n : Nat} {xs : List Int} (h : WB w g xs) (hl : xs.length = n) : Reads w w.heap.size 1 (some ⟨g, 0, none⟩) n (u64s xs) := by
  have := h.reads w.heap.size (Blk.lt h) 0 n (by omega)
  rw [List.drop_zero, List.take_of_length_le (by omega)] at this
  exact this
theorem WB.on {w w' : World} {g : Nat} {xs : List Int} (h : WB w g xs) (hb : Below w.heap.size w w') : WB w' g xs := h.below hb (Blk.lt h)
end Go.Proofs.Ytononinmjijhoaa
