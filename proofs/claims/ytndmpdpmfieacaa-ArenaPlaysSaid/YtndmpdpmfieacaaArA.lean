/-
  An arena grows: a pool more, a slot more; no condition.
-/
import Derived.Test.YtndmpdpmfieacaaAr9
namespace Go.Proofs.Ytndmpdpmfieacaa
open Go.RowKit Go.WideShapes Go.ChangeShapes
set_option linter.all false
theorem St.lower {N N' P I k : Nat} {v : Value} {xs : List Int} {w : World} (h : St N P I k v xs w) (hn : N' ≤ N) : St N' P I k v xs w :=
  ⟨h.hp, h.c1, h.row, h.frow, h.hI, Nat.le_trans hn h.hN, h.heap, h.nodup, h.rng⟩
theorem sl_snoc (l : List Sl) (x : Sl) (j : Nat) : (l ++ [x]).getD j dS = if j < l.length then l.getD j dS else if j = l.length then x else dS := by
  rw [List.getD_eq_getElem?_getD, List.getD_eq_getElem?_getD]
  by_cases h : j < l.length
  · rw [if_pos h, List.getElem?_append_left h]
  · rw [if_neg h, List.getElem?_append_right (by omega)]
    by_cases h2 : j = l.length
    · subst h2; simp
    · rw [if_neg h2, List.getElem?_eq_none (by simp; omega)]; rfl
section
variable {N B S k q : Nat} {sl : List Sl} {P I : Nat → Nat} {V : Nat → Value} {xs : Nat → List Int} {w w' : World}
theorem box_set (a : Value) (P : Nat → Nat) (q p : Nat) (hq : q < 5) : (#[a, pv q P 0, pv q P 1, pv q P 2, pv q P 3, pv q P 4] : Array Value).setIfInBounds (1 + q) (.pointer (some ⟨p, 0, none⟩)) = #[a, pv (q + 1) (up P q p) 0, pv (q + 1) (up P q p) 1, pv (q + 1) (up P q p) 2, pv (q + 1) (up P q p) 3, pv (q + 1) (up P q p) 4] := by
  have : q = 0 ∨ q = 1 ∨ q = 2 ∨ q = 3 ∨ q = 4 := by omega
  rcases this with rfl | rfl | rfl | rfl | rfl <;> simp [pv, up]
theorem Ar.addPool (h : Ar N B S k q sl P I V xs w) (hq : q < 5) {p ii : Nat} (hs : St w.heap.size p ii k (.slice none 0 0) [] w') (hb : Below w.heap.size w w') :
    Ar N B S k (q + 1) sl (up P q p) (up I q ii) (up V q (.slice none 0 0)) (up xs q []) (w'.setCell ⟨B, 1 + q, none⟩ (.pointer (some ⟨p, 0, none⟩))) := by
  have hB := h.ltB
  have hSB := h.SB
  have h' := h.on hb
  have hfar : ∀ x, x ≠ B → (w'.setCell ⟨B, 1 + q, none⟩ (.pointer (some ⟨p, 0, none⟩))).heap[x]? = w'.heap[x]? := fun x hx => heap_far _ _ _ hx
  have hii := hs.hN
  have hpi := hs.hI
  have old : ∀ {b}, Foot B S q sl P I V b → b < w.heap.size := fun hf => (h.foot hf).2
  refine ⟨?_, h.NS, h.SB, h'.row.same (hfar S (by omega)), fun i hi => ?_, fun c hc => ?_, ⟨h.sep.b1, fun i c hi hc => ?_, fun c d hc hd hne => ?_⟩⟩
  · rw [heap_setCell_same w' B (1 + q) _ 110 _ h'.box, box_set _ P q p hq]
  · obtain ⟨h1, h2, h3, h4⟩ := h'.wds i hi
    exact ⟨(hfar _ (by omega)).trans h1, h2, h3, h4⟩
  · by_cases e : c = q
    · subst e
      rw [up_same, up_same, up_same, up_same]
      exact (hs.lower (by omega)).same (hfar _ (by omega)) (hfar _ (by omega)) (fun g hg => by cases hg)
    · have hc' : c < q := by omega
      rw [up_other _ _ e, up_other _ _ e, up_other _ _ e, up_other _ _ e]
      have hI := h'.Ige hc'
      exact (h'.pl c hc').same (hfar _ (by omega)) (hfar _ (by omega)) (fun g hg => hfar g (by have := (h'.pl c hc').ltv g hg; omega))
  · have hl : (sl.getD i dS).blk < w.heap.size := old (.inr (.inr (.inl ⟨i, hi, rfl⟩)))
    by_cases e : c = q
    · subst e
      rw [up_same, up_same, up_same]
      exact ⟨by omega, by omega, by simp [Value.ownBlock]⟩
    · rw [up_other _ _ e, up_other _ _ e, up_other _ _ e]
      exact h.sep.b2 i c hi (by omega)
  · have lp : ∀ c, c < q → P c < w.heap.size ∧ I c < w.heap.size ∧ ∀ g, (V c).ownBlock = some g → g < w.heap.size := fun c hc =>
      ⟨old (.inr (.inr (.inr ⟨c, hc, .inl rfl⟩))), old (.inr (.inr (.inr ⟨c, hc, .inr (.inl rfl)⟩))), fun g hg => old (.inr (.inr (.inr ⟨c, hc, .inr (.inr hg)⟩)))⟩
    by_cases e : c = q
    · subst e
      have ld := lp d (by omega)
      rw [up_same, up_same, up_same, up_other _ _ (Ne.symm hne), up_other _ _ (Ne.symm hne), up_other _ _ (Ne.symm hne)]
      exact ⟨by omega, by omega, by omega, by simp [Value.ownBlock], by simp [Value.ownBlock], fun g hg => by simp [Value.ownBlock] at hg⟩
    · have lc := lp c (by omega)
      by_cases e2 : d = q
      · subst e2
        rw [up_same, up_same, up_same, up_other _ _ e, up_other _ _ e, up_other _ _ e]
        exact ⟨by omega, by omega, by omega, fun hx => by have := lc.2.2 _ hx; omega, fun hx => by have := lc.2.2 _ hx; omega, fun g hg => by simp [Value.ownBlock]⟩
      · rw [up_other _ _ e, up_other _ _ e, up_other _ _ e, up_other _ _ e2, up_other _ _ e2, up_other _ _ e2]
        exact h.sep.p1 c d (by omega) (by omega) hne
/-- Room for k slots. -/
def Room (w : World) (S k : Nat) : Prop := ∃ cs, w.heap[S]? = some (.cells cs 114 (0, 0)) ∧ cs.size = k * 4
theorem Room.same (h : Room w S k) (hb : w'.heap[S]? = w.heap[S]?) : Room w' S k := by
  obtain ⟨cs, h1, h2⟩ := h; exact ⟨cs, hb.trans h1, h2⟩
theorem Room.set (h : Room w S k) (j : Nat) (u : Value) : Room (w.setCell ⟨S, j, none⟩ u) S k := by
  obtain ⟨cs, h1, h2⟩ := h; exact ⟨_, heap_setCell_same w S j cs 114 u h1, by simpa using h2⟩
theorem Room.at_ (h : Room w S k) {j : Nat} (hj : j < k * 4) : ∃ u, w.cell? ⟨S, j, none⟩ = some u := by
  obtain ⟨cs, h1, h2⟩ := h
  rw [cell_of h1]
  exact ⟨cs[j]'(by omega), Array.getElem?_eq_getElem (by omega)⟩
/-- A slot's cells. -/
def slV (c b : Nat) : List Value := [.int .i64 (c : Nat), .int .i64 1, .bool false, .slice (some ⟨b, 0, none⟩) (szN c) (szN c)]
def newSl (c b : Nat) : Sl := ⟨c, 1, false, b, List.replicate (szN c) poisonV⟩
theorem SRow.snoc (h : SRow w S sl) (hr : Room w S k) (hk : sl.length < k) (c b : Nat) : SRow (w.setCells S (sl.length * 4) (slV c b)) S (sl ++ [newSl c b]) ∧ Room (w.setCells S (sl.length * 4) (slV c b)) S k := by
  obtain ⟨m, hm⟩ : ∃ m, m = sl.length := ⟨_, rfl⟩
  have e : w.setCells S (sl.length * 4) (slV c b) = (((w.setCell ⟨S, m * 4, none⟩ (.int .i64 (c : Nat))).setCell ⟨S, m * 4 + 1, none⟩ (.int .i64 1)).setCell ⟨S, m * 4 + 2, none⟩ (.bool false)).setCell ⟨S, m * 4 + 3, none⟩ (.slice (some ⟨b, 0, none⟩) (szN c) (szN c)) := by rw [← hm]; rfl
  rw [e]
  have r1 := hr.set (m * 4) (.int .i64 (c : Nat))
  have r2 := r1.set (m * 4 + 1) (.int .i64 1)
  have r3 := r2.set (m * 4 + 2) (.bool false)
  have r4 := r3.set (m * 4 + 3) (.slice (some ⟨b, 0, none⟩) (szN c) (szN c))
  obtain ⟨u0, k0⟩ := hr.at_ (j := m * 4) (by omega)
  obtain ⟨u1, k1⟩ := r1.at_ (j := m * 4 + 1) (by omega)
  obtain ⟨u2, k2⟩ := r2.at_ (j := m * 4 + 2) (by omega)
  obtain ⟨u3, k3⟩ := r3.at_ (j := m * 4 + 3) (by omega)
  refine ⟨⟨by obtain ⟨cs, h1, _⟩ := r4; exact ⟨cs, h1⟩, ?_, ?_, ?_, ?_⟩, r4⟩
  all_goals
    intro i hi
    rw [List.length_append, List.length_singleton, ← hm] at hi
    rw [sl_snoc, ← hm]
  · rw [World.cell?_setCell_other _ _ _ _ (by simp <;> omega), World.cell?_setCell_other _ _ _ _ (by simp <;> omega), World.cell?_setCell_other _ _ _ _ (by simp <;> omega)]
    by_cases e : i < m
    · rw [if_pos e, World.cell?_setCell_other _ _ _ _ (by simp <;> omega)]
      exact h.c0 i (by omega)
    · obtain rfl : i = m := by omega
      rw [if_neg e, if_pos rfl, World.cell?_setCell_same _ _ _ k0]; rfl
  · rw [World.cell?_setCell_other _ _ _ _ (by simp <;> omega), World.cell?_setCell_other _ _ _ _ (by simp <;> omega)]
    by_cases e : i < m
    · rw [if_pos e, World.cell?_setCell_other _ _ _ _ (by simp <;> omega), World.cell?_setCell_other _ _ _ _ (by simp <;> omega)]
      exact h.c1 i (by omega)
    · obtain rfl : i = m := by omega
      rw [if_neg e, if_pos rfl, World.cell?_setCell_same _ _ _ k1]; rfl
  · rw [World.cell?_setCell_other _ _ _ _ (by simp <;> omega)]
    by_cases e : i < m
    · rw [if_pos e, World.cell?_setCell_other _ _ _ _ (by simp <;> omega), World.cell?_setCell_other _ _ _ _ (by simp <;> omega), World.cell?_setCell_other _ _ _ _ (by simp <;> omega)]
      exact h.c2 i (by omega)
    · obtain rfl : i = m := by omega
      rw [if_neg e, if_pos rfl, World.cell?_setCell_same _ _ _ k2]; rfl
  · by_cases e : i < m
    · rw [if_pos e, World.cell?_setCell_other _ _ _ _ (by simp <;> omega), World.cell?_setCell_other _ _ _ _ (by simp <;> omega), World.cell?_setCell_other _ _ _ _ (by simp <;> omega), World.cell?_setCell_other _ _ _ _ (by simp <;> omega)]
      exact h.c3 i (by omega)
    · obtain rfl : i = m := by omega
      rw [if_neg e, if_pos rfl, World.cell?_setCell_same _ _ _ k3]; rfl
theorem setCells_far (b : Nat) : ∀ (vs : List Value) (o : Nat) (w : World) (x : Nat), x ≠ b → (w.setCells b o vs).heap[x]? = w.heap[x]?
  | [], _, _, _, _ => rfl
  | v :: r, o, w, x, hx => by rw [World.setCells, setCells_far b r _ _ x hx]; exact heap_far w ⟨b, o, none⟩ v hx
/-- A slot more. -/
theorem Ar.addSlot (h : Ar N B S k q sl P I V xs w) (hr : Room w S k) (hk : sl.length < k) {c b : Nat} (hc : c < 5) (hb : Below w.heap.size w w') (hw : w'.heap[b]? = some (.cells (List.replicate (szN c) (Value.int .u64 poisonV)).toArray 35 (0, 0))) (hbn : w.heap.size ≤ b) :
    Ar N B S k q (sl ++ [newSl c b]) P I V xs ((w'.setCells S (sl.length * 4) (slV c b)).setCell ⟨B, 0, none⟩ (.slice (some ⟨S, 0, none⟩) (sl.length + 1) k)) ∧ Room ((w'.setCells S (sl.length * 4) (slV c b)).setCell ⟨B, 0, none⟩ (.slice (some ⟨S, 0, none⟩) (sl.length + 1) k)) S k := by
  have hB := h.ltB
  have hSB := h.SB
  have h' := h.on hb
  obtain ⟨hrow, hroom⟩ := SRow.snoc h'.row (hr.same (hb.block S (by omega))) hk c b
  have hfar : ∀ x, x ≠ B → x ≠ S → ((w'.setCells S (sl.length * 4) (slV c b)).setCell ⟨B, 0, none⟩ (.slice (some ⟨S, 0, none⟩) (sl.length + 1) k)).heap[x]? = w'.heap[x]? := fun x hx hx2 => (heap_far _ _ _ hx).trans (setCells_far _ _ _ _ _ hx2)
  have hS : ((w'.setCells S (sl.length * 4) (slV c b)).setCell ⟨B, 0, none⟩ (.slice (some ⟨S, 0, none⟩) (sl.length + 1) k)).heap[S]? = (w'.setCells S (sl.length * 4) (slV c b)).heap[S]? := heap_far _ _ _ (by simp <;> omega)
  have old : ∀ {b}, Foot B S q sl P I V b → b < w.heap.size := fun hf => (h.foot hf).2
  have gl : ∀ i, i < sl.length → (sl ++ [newSl c b]).getD i dS = sl.getD i dS := fun i hi => by rw [sl_snoc, if_pos hi]
  have gn : (sl ++ [newSl c b]).getD sl.length dS = newSl c b := by rw [sl_snoc, if_neg (Nat.lt_irrefl _), if_pos rfl]
  refine ⟨⟨?_, h.NS, h.SB, hrow.same hS, fun i hi => ?_, fun d hd => ?_, ⟨fun i j hi hj hne => ?_, fun i d hi hd => ?_, h.sep.p1⟩⟩, hroom.same hS⟩
  · rw [heap_setCell_same _ B 0 _ 110 _ ((setCells_far S _ _ w' B (by omega)).trans h'.box)]
    rw [List.length_append, List.length_singleton]
    rfl
  · rw [List.length_append, List.length_singleton] at hi
    by_cases e : i < sl.length
    · rw [gl i e]
      obtain ⟨h1, h2, h3, h4⟩ := h'.wds i e
      exact ⟨(hfar _ (by omega) (by omega)).trans h1, h2, h3, h4⟩
    · obtain rfl : i = sl.length := by omega
      rw [gn]
      refine ⟨(hfar b (by omega) (by omega)).trans (hw.trans ?_), by simp [newSl], hc, by show B < b; omega⟩
      rw [show (newSl c b).ws = List.replicate (szN c) poisonV from rfl, wv_rep]
  · have hI := h'.Ige hd
    exact (h'.pl d hd).same (hfar _ (by omega) (by omega)) (hfar _ (by omega) (by omega)) (fun g hg => hfar g (by have := (h'.pl d hd).ltv g hg; omega) (by have := (h'.pl d hd).ltv g hg; omega))
  · rw [List.length_append, List.length_singleton] at hi hj
    have lb : ∀ i, i < sl.length → (sl.getD i dS).blk < w.heap.size := fun i hi => old (.inr (.inr (.inl ⟨i, hi, rfl⟩)))
    by_cases e : i < sl.length
    · rw [gl i e]
      by_cases e2 : j < sl.length
      · rw [gl j e2]; exact h.sep.b1 i j e e2 hne
      · obtain rfl : j = sl.length := by omega
        rw [gn]; have := lb i e; show (sl.getD i dS).blk ≠ b; omega
    · obtain rfl : i = sl.length := by omega
      rw [gn]
      have e2 : j < sl.length := by omega
      rw [gl j e2]; have := lb j e2; show b ≠ _; omega
  · rw [List.length_append, List.length_singleton] at hi
    by_cases e : i < sl.length
    · rw [gl i e]; exact h.sep.b2 i d e hd
    · obtain rfl : i = sl.length := by omega
      rw [gn]
      have l1 : P d < w.heap.size := old (.inr (.inr (.inr ⟨d, hd, .inl rfl⟩)))
      have l2 : I d < w.heap.size := old (.inr (.inr (.inr ⟨d, hd, .inr (.inl rfl)⟩)))
      refine ⟨by show b ≠ _; omega, by show b ≠ _; omega, fun hx => ?_⟩
      have : b < w.heap.size := old (.inr (.inr (.inr ⟨d, hd, .inr (.inr hx)⟩)))
      omega
end
end Go.Proofs.Ytndmpdpmfieacaa
