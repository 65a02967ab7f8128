/-
  A row of the call's own that begins anywhere in its block: cut ahead, appended to; no condition.
-/
import Derived.Below
import Derived.Laws.OwnMore
import Derived.Deep.AppendLies
import Derived.ArgAppend
import Derived.Laws.IdiomCopy
import Derived.Deep.Upon
import Derived.RegionTactic
import Derived.Test.YtedjimkpmmacoaaGreatDoorRd
namespace Go.Proofs.YtedjimkpmmacoaaGreatDoor
open Go.RowKit
set_option linter.all false
/-- The value v owns n elements that read xs, from some place of a block on, to which nobody else holds. -/
def Mid (w : World) (base : Nat) (t : TypeId) (size : Nat) (v : Value) (n : Nat) (xs : List Value) : Prop :=
  xs.length = n * size ∧ ((v = .slice none 0 0 ∧ n = 0) ∨
    ∃ g off cap cur, v = .slice (some ⟨g, off, none⟩) n cap ∧ base ≤ g ∧ w.heap[g]? = some (.cells cur t (0, 0)) ∧ n ≤ cap ∧ cap ≤ maxLen ∧ off + cap * size ≤ cur.size ∧ (cur.toList.drop off).take (n * size) = xs)
section
variable {w w' : World} {base size n : Nat} {t : TypeId} {v : Value} {xs : List Value}
theorem Mid.nil (w : World) (base : Nat) (t : TypeId) (size : Nat) : Mid w base t size (.slice none 0 0) 0 [] := ⟨by simp, .inl ⟨rfl, rfl⟩⟩
theorem Mid.of_own (h : w.ownsRow base t size v n xs) : Mid w base t size v n xs := by
  refine ⟨h.1, ?_⟩
  rcases h.2 with h' | ⟨g, cap, cur, hv, hb, hg, hn, hc, hs, ht⟩
  · exact .inl h'
  · exact .inr ⟨g, 0, cap, cur, hv, hb, hg, hn, hc, by omega, by rw [List.drop_zero]; exact ht⟩
theorem Mid.form (h : Mid w base t size v n xs) : ∃ A c, v = .slice A n c := by
  rcases h.2 with ⟨rfl, rfl⟩ | ⟨g, off, cap, cur, rfl, _⟩
  · exact ⟨_, _, rfl⟩
  · exact ⟨_, _, rfl⟩
theorem Mid.lt (h : Mid w base t size v n xs) : ∀ g, v.ownBlock = some g → base ≤ g ∧ g < w.heap.size := by
  intro g hg
  rcases h.2 with ⟨rfl, _⟩ | ⟨g', off, cap, cur, rfl, hb, hh, _⟩
  · cases hg
  · have e : g' = g := by simpa [Value.ownBlock] using hg
    subst e
    refine ⟨hb, ?_⟩
    rcases Nat.lt_or_ge g' w.heap.size with hlt | hge
    · exact hlt
    · rw [Array.getElem?_eq_none hge] at hh; cases hh
theorem Mid.same (h : Mid w base t size v n xs) (hb : ∀ g, v.ownBlock = some g → w'.heap[g]? = w.heap[g]?) : Mid w' base t size v n xs := by
  refine ⟨h.1, ?_⟩
  rcases h.2 with h' | ⟨g, off, cap, cur, rfl, hbg, hh, rest⟩
  · exact .inl h'
  · exact .inr ⟨g, off, cap, cur, rfl, hbg, (hb g rfl).trans hh, rest⟩
theorem Mid.cells {g off cap : Nat} (h : Mid w base t size (.slice (some ⟨g, off, none⟩) n cap) n xs) : ∀ j u, xs[j]? = some u → w.cell? ⟨g, off + j, none⟩ = some u := by
  rcases h.2 with ⟨h', _⟩ | ⟨g', off', cap', cur, h', _, hh, _, _, _, hx⟩
  · cases h'
  · simp only [Value.slice.injEq, Option.some.injEq, Addr.mk.injEq, and_true, true_and] at h'
    obtain ⟨⟨rfl, rfl⟩, rfl⟩ := h'
    intro j u hj
    rw [← hx, List.getElem?_take] at hj
    split at hj
    · rw [List.getElem?_drop] at hj
      simp only [World.cell?, hh]
      simpa using hj
    · cases hj
theorem Mid.cut {A : Option Addr} {c k : Nat} (h : Mid w base t size (.slice A n c) n xs) (hk : k ≤ n) : Mid w base t size (.slice (if c = k then A else A.map (·.add (k * size))) (n - k) (c - k)) (n - k) (xs.drop (k * size)) := by
  refine ⟨by rw [List.length_drop, h.1, Nat.sub_mul], ?_⟩
  rcases h.2 with ⟨h', h0⟩ | ⟨g, off, cap, cur, h', hb, hh, hn, hc, hs, hx⟩
  · simp only [Value.slice.injEq] at h'
    obtain ⟨rfl, _, rfl⟩ := h'
    subst h0
    obtain rfl : k = 0 := by omega
    exact .inl ⟨by simp, rfl⟩
  · simp only [Value.slice.injEq, true_and] at h'
    obtain ⟨rfl, rfl⟩ := h'
    right
    have hm : k * size ≤ c * size := Nat.mul_le_mul_right _ (by omega)
    have hm2 : (c - k) * size = c * size - k * size := Nat.sub_mul _ _ _
    have hm3 : (n - k) * size = n * size - k * size := Nat.sub_mul _ _ _
    by_cases e : c = k
    · obtain rfl : n = k := by omega
      subst e
      refine ⟨g, off, _, cur, by rw [if_pos rfl], hb, hh, by omega, by omega, by simp; omega, ?_⟩
      have : xs.length ≤ c * size := by rw [h.1]; exact Nat.le_refl _
      simp [List.drop_eq_nil_of_le this]
    · refine ⟨g, off + k * size, c - k, cur, by rw [if_neg e]; simp [Addr.add_lit], hb, hh, by omega, by omega, by omega, ?_⟩
      rw [← hx, List.drop_take, List.drop_drop, hm3]
/-- What an append did: but for the row nothing that was has turned; the row is the old one, or new. -/
structure Ran (v v' : Value) (w w' : World) : Prop where
  grown : w.grownBy w' v.ownBlock
  at_ : v'.ownBlock = v.ownBlock ∨ ∀ g, v'.ownBlock = some g → w.heap.size ≤ g
theorem heap_setCells_same {b : Nat} : ∀ (vs : List Value) (o : Nat) (w : World) (c : Array Value) (t : TypeId), w.heap[b]? = some (.cells c t (0, 0)) → o + vs.length ≤ c.size →
    ∃ c', (w.setCells b o vs).heap[b]? = some (.cells c' t (0, 0)) ∧ c'.size = c.size ∧ c'.toList.take o = c.toList.take o ∧ (c'.toList.drop o).take vs.length = vs
  | [], o, w, c, t, h, _ => ⟨c, h, rfl, rfl, rfl⟩
  | v :: r, o, w, c, t, h, hl => by
    simp only [List.length_cons] at hl
    have h1 : (w.setCell ⟨b, o, none⟩ v).heap[b]? = some (.cells (c.setIfInBounds o v) t (0, 0)) := by
      simp [World.setCell, Array.getElem?_modify, h]
    obtain ⟨c', a1, a2, a3, a4⟩ := heap_setCells_same r (o + 1) _ _ t h1 (by simp; omega)
    have a2' : c'.size = c.size := by simpa using a2
    refine ⟨c', a1, a2', ?_, ?_⟩
    · have := congrArg (List.take o) a3
      rw [List.take_take, List.take_take, Nat.min_eq_left (by omega)] at this
      rw [this, Array.toList_setIfInBounds]
      apply List.ext_getElem?
      intro k
      rw [List.getElem?_take, List.getElem?_take]
      split
      · rw [List.getElem?_set]; rw [if_neg (by omega)]
      · rfl
    · have hv : c'.toList[o]? = some v := by
        have e : (c'.toList.take (o + 1))[o]? = ((c.setIfInBounds o v).toList.take (o + 1))[o]? := by rw [a3]
        rw [List.getElem?_take, List.getElem?_take, if_pos (by omega), if_pos (by omega), Array.toList_setIfInBounds, List.getElem?_set, if_pos rfl, if_pos (by simp; omega)] at e
        exact e
      have hlt : o < c'.toList.length := by simp; omega
      rw [List.drop_eq_getElem_cons hlt, List.length_cons, List.take_succ_cons, a4]
      rw [List.getElem?_eq_getElem hlt] at hv
      injection hv with hv
      rw [hv]
theorem size_setCells_ (b : Nat) : ∀ (vs : List Value) (o : Nat) (w : World), (w.setCells b o vs).heap.size = w.heap.size
  | [], _, _ => rfl
  | v :: r, o, w => by rw [World.setCells, size_setCells_ b r]; simp
theorem tape_setCells (b : Nat) : ∀ (vs : List Value) (o : Nat) (w : World), (w.setCells b o vs).tape = w.tape
  | [], _, _ => rfl
  | v :: r, o, w => by rw [World.setCells, tape_setCells b r]; rfl
section
variable {P : Program}
theorem run_append_mid (ty e : TypeId) (t : TypeId) (i : TypeInfo) (z : Value) (bytes : Nat) (ht : P.underlying t = some (.slice e)) (hi : P.info? e = some i) (hz : i.zero = some z)
    (hsize : i.size = size) (hby : i.bytes = bytes) (hzs : z.cells.size = size) (hsz : 0 < size) (h : Mid w base e size v n xs)
    (ad : Addr) (m c : Nat) (news : List Value) (hl : news.length = m * size) (hnews : ∀ j u, news[j]? = some u → w.cell? (ad.add j) = some u) (h1 : ∀ u ∈ news, u.oneCell' = true)
    (h63 : n + m ≤ maxLen) (hbytes : (n + m) * bytes ≤ 140737488355328) (hbase : base ≤ w.heap.size) :
    ∃ v' w', (Builtin.append_ #[t, t] ty #[v, .slice (some ad) m c]).run P w = .ok v' w' ∧ Mid w' base e size v' (n + m) (xs ++ news) ∧ Ran v v' w w' := by
  rcases h.2 with ⟨rfl, rfl⟩ | ⟨g, off, cap, cur, rfl, hb, hh, hn, hc, hs, hx⟩
  · have hx0 : xs = [] := List.eq_nil_of_length_eq_zero (by simpa using h.1)
    subst hx0
    obtain ⟨v', w', hrun, h2, h3, _, h5⟩ := run_append_own_at (P := P) w base t ty e i z size bytes ht hi hz hsize hby hzs hsz (.slice none 0 0) 0 [] (World.ownsRow_nil _ _ _ _) ad m c news hl hnews h1 h63 hbytes hbase
    exact ⟨v', w', hrun, Mid.of_own h2, ⟨h3, h5.imp id fun e g hg => by rw [e] at hg; injection hg with hg; omega⟩⟩
  · by_cases hr : n + m ≤ cap
    · have hml : (n + m) * size ≤ cap * size := Nat.mul_le_mul_right _ hr
      have hnl : (n + m) * size = n * size + m * size := Nat.add_mul _ _ _
      have hb1 : off + n * size + news.length ≤ cur.size := by rw [hl]; omega
      subst hsize
      have hcell : ∀ j, j < news.length → (w.cell? ⟨g, off + n * i.size + j, none⟩).isSome = true := fun j hj => by
        simp only [World.cell?, hh]
        rw [Array.getElem?_eq_getElem (show off + n * i.size + j < cur.size by omega)]; rfl
      have hrun := run_append_room_cells (P := P) w t ty e i ht hi g off n cap ad m c news hl hnews h1 hr hcell (fun j hj => by simp [World.frozen?, hh])
      obtain ⟨c', a1, a2, a3, a4⟩ := heap_setCells_same news (off + n * i.size) w cur e hh hb1
      refine ⟨_, _, hrun, ⟨by rw [List.length_append, h.1, hl, Nat.add_mul], .inr ⟨g, off, cap, c', rfl, hb, a1, hr, hc, by omega, ?_⟩⟩, ⟨⟨(World.keptBut_setCells g (may := fun _ => True) news _ w (fun _ _ => trivial)).1, tape_setCells _ _ _ _, (World.keptBut_setCells g (may := fun _ => True) news _ w (fun _ _ => trivial)).2.1, by rw [size_setCells_]; exact Nat.le_refl _, fun k hk hr' => World.heap_setCells_other w g _ news hk (fun e => hr' (by rw [e]; rfl))⟩, .inl rfl⟩⟩
      have q1 : (c'.toList.drop off).take (n * i.size) = xs := by
        rw [← hx, List.take_drop, List.take_drop, a3]
      rw [hnl, List.take_add, q1, List.drop_drop, ← hl, a4]
    · obtain ⟨v', w', hrun, r1, r2⟩ := run_append_arg_grows (P := P) w t ty e i z size bytes ht hi hz hsize hby hzs hsz ⟨g, off, none⟩ n cap xs h.1 (fun j u hj => by rw [Addr.add_lit]; exact h.cells j u hj) ad m c news hl hnews (by omega) h63 hbytes
      have hm := Mid.of_own r1
      refine ⟨v', w', hrun, ⟨hm.1, ?_⟩, ⟨⟨r2.os, r2.tape, r2.output, r2.size, fun k hk _ => r2.block k hk (by simp)⟩, .inr fun g hg => (hm.lt g hg).1⟩⟩
      rcases hm.2 with h' | ⟨g, off, cap, cur, hv, hb, rest⟩
      · exact .inl h'
      · exact .inr ⟨g, off, cap, cur, hv, by omega, rest⟩
theorem wp_append_mid {o : Oper} {a : Act} {K : Act → World → Prop} {Q : Exit → Act → World → Prop} (s x : Operand) (t : TypeId)
    (ho : o.op = .call { callee := .builtin .append, args := #[s, x], argTypes := #[t, t] })
    (base : Nat) (e : TypeId) (i : TypeInfo) (z : Value) (size bytes : Nat) (ht : P.underlying t = some (.slice e)) (hi : P.info? e = some i) (hz : i.zero = some z)
    (hsize : i.size = size) (hby : i.bytes = bytes) (hzs : z.cells.size = size) (hsz : 0 < size) (v : Value) (n : Nat) (xs : List Value) (hs : a.eval s = v) (h : Mid w base e size v n xs)
    (ad : Addr) (m c : Nat) (news : List Value) (hx : a.eval x = .slice (some ad) m c) (hl : news.length = m * size) (hnews : ∀ j u, news[j]? = some u → w.cell? (ad.add j) = some u) (h1 : ∀ u ∈ news, u.oneCell' = true)
    (h63 : n + m ≤ maxLen) (hbytes : (n + m) * bytes ≤ 140737488355328) (hbase : base ≤ w.heap.size)
    (hK : ∀ v' w', Mid w' base e size v' (n + m) (xs ++ news) → Ran v v' w w' → K (a.put o.dst v') w') : o.wp P a w K Q := by
  obtain ⟨v', w', hrun, h2, h3⟩ := run_append_mid (P := P) o.type e t i z bytes ht hi hz hsize hby hzs hsz h ad m c news hl hnews h1 h63 hbytes hbase
  unfold Oper.wp execOp
  simp only [ho, resolve, invoke, builtin, Sem.run_bind, Sem.run_pure, Result.andThen_ok, List.map_toArray, List.map_cons, List.map_nil, hs, hx, hrun]
  exact hK v' w' h2 h3
theorem step_append_mid {ops : Array Oper} {o : Oper} {a : Act} {K : Act → World → Prop} {Q : Exit → Act → World → Prop} {E : Prop} (hgd : o.guard = none) (s x : Operand) (t : TypeId)
    (ho : o.op = .call { callee := .builtin .append, args := #[s, x], argTypes := #[t, t] })
    (base : Nat) (e : TypeId) (i : TypeInfo) (z : Value) (size bytes : Nat) (ht : P.underlying t = some (.slice e)) (hi : P.info? e = some i) (hz : i.zero = some z)
    (hsize : i.size = size) (hby : i.bytes = bytes) (hzs : z.cells.size = size) (hsz : 0 < size) (v : Value) (n : Nat) (xs : List Value) (hs : a.eval s = v) (h : Mid w base e size v n xs)
    (ad : Addr) (m c : Nat) (news : List Value) (hx : a.eval x = .slice (some ad) m c) (hl : news.length = m * size) (hnews : ∀ j u, news[j]? = some u → w.cell? (ad.add j) = some u) (h1 : ∀ u ∈ news, u.oneCell' = true)
    (h63 : n + m ≤ maxLen) (hbytes : (n + m) * bytes ≤ 140737488355328) (hbase : base ≤ w.heap.size)
    (hK : ∀ v' w', Mid w' base e size v' (n + m) (xs ++ news) → Ran v v' w w' → K (a.put o.dst v') w') :
    if Region.wanted o (yielded ops a.tmps) = true then Oper.wp P o a w K Q else E := by
  have hw : Region.wanted o (yielded ops a.tmps) = true := by simp [Region.wanted, hgd]
  rw [if_pos hw]
  exact wp_append_mid s x t ho base e i z size bytes ht hi hz hsize hby hzs hsz v n xs hs h ad m c news hx hl hnews h1 h63 hbytes hbase hK
end
end
end Go.Proofs.YtedjimkpmmacoaaGreatDoor
