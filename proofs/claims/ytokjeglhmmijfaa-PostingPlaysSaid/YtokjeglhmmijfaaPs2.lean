/-
  Lists of lists in memory: as they come in, and of a call's own; a posting list by value; no condition.
-/
import Derived.Test.YtokjeglhmmijfaaPs3
namespace Go.Proofs.Ytokjeglhmmijfaa
open Go.RowKit Go.WideShapes Go.ChangeShapes
set_option linter.all false
theorem below_alloc (w : World) (o : Obj) : Below w.heap.size w (w.alloc o) := (Below.refl _ _).alloc (Nat.le_refl _) o
theorem below_drew (w : World) : Below w.heap.size w w.drew := (Below.refl _ _).drew
theorem Mid.readsv {w : World} {N n c : Nat} {t : TypeId} {A : Option Addr} {xs : List Value} (h : Mid w N t 1 (.slice A n c) n xs) : Reads w w.heap.size 1 A n xs := by
  refine ⟨h.1, fun hn => ?_⟩
  rcases h.2 with ⟨h', h0⟩ | ⟨g, off, cap, cur, h', hb, hh, _⟩
  · omega
  · simp only [Value.slice.injEq, true_and] at h'
    obtain ⟨rfl, rfl⟩ := h'
    refine ⟨_, rfl, ?_, fun j u hu => ?_⟩
    · exact (h.lt g rfl).2
    · have e : (⟨g, off, none⟩ : Addr).add j = ⟨g, off + j, none⟩ := by unfold Addr.add; split <;> simp_all
      rw [e]; exact h.cells j u hu
theorem Mid.nocap {w : World} {N n c : Nat} {t : TypeId} {A : Option Addr} {xs : List Value} (h : Mid w N t 1 (.slice A n c) n xs) : A = none → c = 0 := by
  rintro rfl
  rcases h.2 with ⟨h', h0⟩ | ⟨g, off, cap, cur, h', _⟩
  · simp only [Value.slice.injEq] at h'; exact h'.2.2
  · simp at h'
theorem Mid.apart {w : World} {N N' n n' : Nat} {t t' : TypeId} {v v' : Value} {xs ys : List Value} (h : Mid w N t 1 v n xs) (h' : Mid w N' t' 1 v' n' ys) (hne : t ≠ t') : ∀ g, v.ownBlock = some g → v'.ownBlock ≠ some g := by
  intro g hg hg'
  rcases h.2 with ⟨rfl, _⟩ | ⟨g1, o1, c1, cur1, rfl, _, hh1, _⟩
  · cases hg
  · rcases h'.2 with ⟨rfl, _⟩ | ⟨g2, o2, c2, cur2, rfl, _, hh2, _⟩
    · cases hg'
    · have e1 : g1 = g := by simpa [Value.ownBlock] using hg
      have e2 : g2 = g := by simpa [Value.ownBlock] using hg'
      subst e1; subst e2
      rw [hh1] at hh2
      injection hh2 with hh2
      injection hh2 with _ ht
      exact hne ht
theorem Mid.on_ran {w w' : World} {N N' n n' : Nat} {t t' : TypeId} {v u u' : Value} {xs ys : List Value} (h : Mid w N t 1 v n xs) (h' : Mid w N' t' 1 u n' ys) (hne : t ≠ t') (hr : Ran u u' w w') : Mid w' N t 1 v n xs :=
  h.same fun g hg => hr.grown.block g (h.lt g hg).2 (fun e => h.apart h' hne g hg e.symm)
theorem Mid.lower {w : World} {B B' n : Nat} {t : TypeId} {v : Value} {xs : List Value} (h : Mid w B t 1 v n xs) (hb : B' ≤ B) : Mid w B' t 1 v n xs := by
  refine ⟨h.1, ?_⟩
  rcases h.2 with q | ⟨g, off, cap, cur, h1, h2, h3⟩
  · exact .inl q
  · exact .inr ⟨g, off, cap, cur, h1, by omega, h3⟩
theorem Mid.onb {w w' : World} {N n : Nat} {t : TypeId} {v : Value} {xs : List Value} (h : Mid w N t 1 v n xs) (hb : Below w.heap.size w w') : Mid w' N t 1 v n xs := h.same fun g hg => hb.block g (h.lt g hg).2
theorem Mid.alloc_ {w : World} {N n : Nat} {t : TypeId} {v : Value} {xs : List Value} (h : Mid w N t 1 v n xs) (o : Obj) : Mid (w.alloc o) N t 1 v n xs := h.onb (below_alloc w o)
/-- A list of numbers in a slice whose room is told. -/
def SK (κ : IntKind) (w : World) (B : Nat) (A : Option Addr) (n c : Nat) (l : List Int) : Prop := n ≤ c ∧ c ≤ maxLen ∧ (A = none → n = 0) ∧ Reads w B 1 A n (ks κ l)
section
variable {κ : IntKind} {w w' : World} {B B' n c k : Nat} {A : Option Addr} {l : List Int}
theorem SK.len (h : SK κ w B A n c l) : l.length = n := h.2.2.2.kl
theorem SK.nil (w : World) (B : Nat) : SK κ w B none 0 0 [] := ⟨Nat.le_refl _, by unfold maxLen; omega, fun _ => rfl, Reads.none_⟩
theorem SK.below (h : SK κ w B A n c l) (hb : Below B w w') : SK κ w' B A n c l := ⟨h.1, h.2.1, h.2.2.1, h.2.2.2.below hb⟩
theorem SK.more (h : SK κ w B A n c l) (hb : B ≤ B') : SK κ w B' A n c l := ⟨h.1, h.2.1, h.2.2.1, h.2.2.2.more hb⟩
theorem SK.on (h : SK κ w w.heap.size A n c l) (hb : Below w.heap.size w w') : SK κ w' w'.heap.size A n c l := (h.below hb).more hb.size
theorem SK.of (r : Reads w B 1 A n (ks κ l)) (h : n ≤ c) (m : c ≤ maxLen) : SK κ w B A n c l := by
  refine ⟨h, m, fun e => ?_, r⟩
  rcases Nat.eq_zero_or_pos n with q | q
  · exact q
  · obtain ⟨ad, e', _⟩ := r.2 q
    rw [e] at e'; cases e'
theorem Mid.sk {t : TypeId} {N : Nat} (h : Mid w N t 1 (.slice A n c) n (ks κ l)) : SK κ w w.heap.size A n c l := SK.of h.readsv h.caps.1 h.caps.2
theorem SK.take (h : SK κ w B A n c l) (hk : k ≤ n) : SK κ w B A k c (l.take k) := by
  refine ⟨by have := h.1; omega, h.2.1, fun e => by have := h.2.2.1 e; omega, ?_, fun hk0 => ?_⟩
  · have := h.len
    rw [ks_len, List.length_take]; omega
  · obtain ⟨ad, e, hb, hc⟩ := h.2.2.2.2 (by omega)
    refine ⟨ad, e, hb, fun j u hu => hc j u ?_⟩
    unfold ks at hu ⊢
    rw [List.getElem?_map] at hu ⊢
    rw [List.getElem?_take] at hu
    split at hu
    · exact hu
    · simp at hu
theorem SK.drop (h : SK κ w B A n c l) (hk : k ≤ n) : SK κ w B (if c = k then A else A.map (·.add k)) (n - k) (c - k) (l.drop k) := by
  refine ⟨by have := h.1; omega, by have := h.2.1; omega, fun e => ?_, ?_⟩
  · split at e
    · rename_i h1; have := h.1; omega
    · have : A = none := by cases A with | none => rfl | some a => cases e
      have := h.2.2.1 this; omega
  · have := h.2.2.2.cut (k := k) (cap := c) hk h.1
    rw [Nat.mul_one] at this
    unfold ks at this ⊢
    rwa [← List.map_drop] at this
end
/-- A list as it comes in. -/
structure Ar where
  A : Option Addr
  n : Nat
  c : Nat
  l : List Int
@[reducible] def Ar.v (e : Ar) : Value := .slice e.A e.n e.c
def dA : Ar := ⟨none, 0, 0, []⟩
/-- Lists in a list. -/
def LK (κ : IntKind) (w : World) (B : Nat) (A : Option Addr) (n c : Nat) (ls : List Ar) : Prop := n ≤ c ∧ c ≤ maxLen ∧ (A = none → n = 0) ∧ Reads w B 1 A n (ls.map Ar.v) ∧ ∀ e ∈ ls, SK κ w B e.A e.n e.c e.l
section
variable {κ : IntKind} {w w' : World} {B B' n c k : Nat} {A : Option Addr} {ls : List Ar}
theorem LK.len (h : LK κ w B A n c ls) : ls.length = n := by have := h.2.2.2.1.1; simp at this; exact this
theorem LK.below (h : LK κ w B A n c ls) (hb : Below B w w') : LK κ w' B A n c ls := ⟨h.1, h.2.1, h.2.2.1, h.2.2.2.1.below hb, fun e he => (h.2.2.2.2 e he).below hb⟩
theorem Reads.onv {xs : List Value} (h : Reads w w.heap.size 1 A n xs) (hb : Below w.heap.size w w') : Reads w' w'.heap.size 1 A n xs := (h.below hb).more hb.size
theorem LK.on (h : LK κ w w.heap.size A n c ls) (hb : Below w.heap.size w w') : LK κ w' w'.heap.size A n c ls := ⟨h.1, h.2.1, h.2.2.1, h.2.2.2.1.onv hb, fun e he => (h.2.2.2.2 e he).on hb⟩
theorem LK.more (h : LK κ w B A n c ls) (hb : B ≤ B') : LK κ w B' A n c ls := ⟨h.1, h.2.1, h.2.2.1, h.2.2.2.1.more hb, fun e he => (h.2.2.2.2 e he).more hb⟩
theorem LK.none_ (w : World) (B : Nat) : LK κ w B none 0 0 [] := ⟨Nat.le_refl _, by unfold maxLen; omega, fun _ => rfl, Reads.none_, by simp⟩
theorem LK.at_ (h : LK κ w B A n c ls) (hk : k < n) : ∃ ad, A = some ad ∧ w.cell? (ad.add k) = some (ls.getD k dA).v ∧ SK κ w B (ls.getD k dA).A (ls.getD k dA).n (ls.getD k dA).c (ls.getD k dA).l := by
  have hl : k < ls.length := by rw [h.len]; exact hk
  obtain ⟨ad, u, e, _, hu, hc⟩ := h.2.2.2.1.at_ hk
  rw [List.getElem?_map, List.getElem?_eq_getElem hl] at hu
  injection hu with hu
  have e1 : ls.getD k dA = ls[k] := by rw [List.getD_eq_getElem?_getD, List.getElem?_eq_getElem hl]; rfl
  refine ⟨ad, e, by rw [hc, e1, hu], ?_⟩
  rw [e1]; exact h.2.2.2.2 _ (List.getElem_mem hl)
theorem rv_take {xs : List Value} (h : Reads w B 1 A n xs) (hk : k ≤ n) : Reads w B 1 A k (xs.take k) := by
  refine ⟨by have := h.1; rw [List.length_take]; omega, fun hk0 => ?_⟩
  obtain ⟨ad, e, hb, hc⟩ := h.2 (by omega)
  refine ⟨ad, e, hb, fun j u hu => hc j u ?_⟩
  rw [List.getElem?_take] at hu
  split at hu
  · exact hu
  · cases hu
/-- A list that is written out. -/
theorem Reads.lit (w : World) (t : TypeId) (cs : Array Value) : Reads (w.alloc (.cells cs t)) (w.alloc (.cells cs t)).heap.size 1 (some ⟨w.heap.size, 0, none⟩) cs.size cs.toList := by
  refine ⟨by simp, fun _ => ⟨_, rfl, by simp, fun j u hu => ?_⟩⟩
  have e : (⟨w.heap.size, 0, none⟩ : Addr).add j = ⟨w.heap.size, 0 + j, none⟩ := by unfold Addr.add; split <;> simp_all
  rw [e, Nat.zero_add, cell_of (heap_alloc_new w _)]
  simpa using hu
theorem LK.lit (t : TypeId) (es : List Ar) (cs : Array Value) (hcs : cs.toList = es.map Ar.v) (h9 : es.length ≤ 1000) (h : ∀ e ∈ es, SK κ w w.heap.size e.A e.n e.c e.l) :
    LK κ (w.alloc (.cells cs t)) (w.alloc (.cells cs t)).heap.size (some ⟨w.heap.size, 0, none⟩) es.length es.length es := by
  refine ⟨Nat.le_refl _, by unfold maxLen; omega, fun e => (by cases e), ?_, fun e he => (h e he).on (below_alloc _ _)⟩
  have := Reads.lit w t cs
  have hs : cs.size = es.length := by have := congrArg List.length hcs; simpa using this
  rw [hcs, hs] at this
  exact this
end
/-- An element that an append to a list of lists of the call's own leaves alone: it lies below N, or is the call's own, at M or beyond. -/
def EK (κ : IntKind) (ti : TypeId) (w : World) (N M : Nat) (e : Ar) : Prop := SK κ w N e.A e.n e.c e.l ∨ Mid w M ti 1 e.v e.n (ks κ e.l)
theorem Mid.far {w : World} {t : TypeId} {N m b : Nat} {V : Value} {xs : List Value} (h : Mid w N t 1 V m xs) (hb : b < N) (u : Value) : Mid (w.setCell ⟨b, 0, none⟩ u) N t 1 V m xs :=
  h.same fun g hg => Below.heap_setCell _ _ _ _ (by have := (h.lt g hg).1; simp; omega)
theorem SK.far {κ : IntKind} {w : World} {N b n c : Nat} {A : Option Addr} {l : List Int} (h : SK κ w N A n c l) (hb : N ≤ b) (u : Value) : SK κ (w.setCell ⟨b, 0, none⟩ u) N A n c l :=
  ⟨h.1, h.2.1, h.2.2.1, h.2.2.2.setCell hb u⟩
section
variable {κ : IntKind} {ti tp : TypeId} {w w' : World} {N M n c : Nat} {e : Ar}
theorem EK.below (h : EK κ ti w N M e) (hN : N ≤ w.heap.size) (hb : Below w.heap.size w w') : EK κ ti w' N M e := by
  rcases h with h | h
  · exact .inl (h.below (hb.mono hN))
  · exact .inr (h.onb hb)
theorem EK.ran {V V' : Value} {xs : List Value} (hne : ti ≠ tp) (h : EK κ ti w N M e) (hNM : N ≤ M) (hN : N ≤ w.heap.size) (hV : Mid w M tp 1 V n xs) (hr : Ran V V' w w') : EK κ ti w' N M e := by
  rcases h with h | h
  · exact .inl (h.below ((Below.refl _ _).grown hr.grown hN (fun g hg => by have := (hV.lt g hg).1; omega)))
  · exact .inr (h.on_ran hV hne hr)
theorem EK.far (h : EK κ ti w N M e) {b : Nat} (h1 : N ≤ b) (h2 : b < M) (u : Value) : EK κ ti (w.setCell ⟨b, 0, none⟩ u) N M e := by
  rcases h with h | h
  · exact .inl (h.far h1 u)
  · exact .inr (h.far h2 u)
theorem EK.lower (h : EK κ ti w N M e) {M' : Nat} (hM : M' ≤ M) : EK κ ti w N M' e := by
  rcases h with h | h
  · exact .inl h
  · exact .inr (h.lower hM)
theorem EK.sk (h : EK κ ti w N M e) (hN : N ≤ w.heap.size) : SK κ w w.heap.size e.A e.n e.c e.l := by
  rcases h with h | h
  · exact h.more hN
  · exact Mid.sk h
/-- A list of lists of the call's own. -/
structure OL (κ : IntKind) (ti tp : TypeId) (w : World) (N M : Nat) (V : Value) (own : List Ar) : Prop where
  row : Mid w M tp 1 V own.length (own.map Ar.v)
  els : ∀ e ∈ own, EK κ ti w N M e
  le : N ≤ M
  leM : M ≤ w.heap.size
variable {V V' : Value} {own more : List Ar} {A : Option Addr}
theorem OL.nil (w : World) (hN : N ≤ M) (hM : M ≤ w.heap.size) : OL κ ti tp w N M (.slice none 0 0) [] := ⟨Mid.nil _ _ _ _, by simp, hN, hM⟩
theorem OL.below (h : OL κ ti tp w N M V own) (hb : Below w.heap.size w w') : OL κ ti tp w' N M V own :=
  ⟨h.row.onb hb, fun e he => (h.els e he).below (Nat.le_trans h.le h.leM) hb, h.le, Nat.le_trans h.leM hb.size⟩
theorem OL.far (h : OL κ ti tp w N M V own) {b : Nat} (h1 : N ≤ b) (h2 : b < M) (u : Value) : OL κ ti tp (w.setCell ⟨b, 0, none⟩ u) N M V own :=
  ⟨h.row.far h2 u, fun e he => (h.els e he).far h1 h2 u, h.le, by have := h.leM; simp; exact this⟩
theorem OL.lower (h : OL κ ti tp w N M V own) {M' : Nat} (hN : N ≤ M') (hM : M' ≤ M) : OL κ ti tp w N M' V own :=
  ⟨h.row.lower hM, fun e he => (h.els e he).lower hM, hN, Nat.le_trans hM h.leM⟩
theorem OL.lk (h : OL κ ti tp w N M (.slice A n c) own) (hn : own.length = n) : LK κ w w.heap.size A n c own := by
  subst hn
  exact ⟨h.row.caps.1, h.row.caps.2, fun e => by have := h.row.nocap e; have := h.row.caps.1; omega, h.row.readsv, fun e he => (h.els e he).sk (Nat.le_trans h.le h.leM)⟩
/-- Some more elements. -/
theorem OL.app (hne : ti ≠ tp) (h : OL κ ti tp w N M V own) (he : ∀ e ∈ more, EK κ ti w N M e) (hm : Mid w' M tp 1 V' (own.length + more.length) (own.map Ar.v ++ more.map Ar.v)) (hr : Ran V V' w w') : OL κ ti tp w' N M V' (own ++ more) := by
  refine ⟨by rw [List.length_append, List.map_append]; exact hm, fun x hx => ?_, h.le, Nat.le_trans h.leM hr.grown.size⟩
  rw [List.mem_append] at hx
  rcases hx with hx | hx
  · exact (h.els x hx).ran hne h.le (Nat.le_trans h.le h.leM) h.row hr
  · exact (he x hx).ran hne h.le (Nat.le_trans h.le h.leM) h.row hr
end
/-- The bytes of a block. -/
def eb (b : List Nat) : List Int := nb (encGo 0 b)
/-- A posting list. -/
def PL (w : World) (B : Nat) (A : Option Addr) (n c : Nat) (L : List (List Nat)) : Prop := ∃ ls : List Ar, LK .u8 w B A n c ls ∧ ls.map Ar.l = L.map eb
section
variable {w w' : World} {B B' n c k : Nat} {A : Option Addr} {L : List (List Nat)}
theorem PL.len (h : PL w B A n c L) : L.length = n := by
  obtain ⟨ls, h1, h2⟩ := h
  have := congrArg List.length h2
  rw [List.length_map, List.length_map, h1.len] at this
  exact this.symm
theorem PL.below (h : PL w B A n c L) (hb : Below B w w') : PL w' B A n c L := by
  obtain ⟨ls, h1, h2⟩ := h
  exact ⟨ls, h1.below hb, h2⟩
theorem PL.on (h : PL w w.heap.size A n c L) (hb : Below w.heap.size w w') : PL w' w'.heap.size A n c L := by
  obtain ⟨ls, h1, h2⟩ := h
  exact ⟨ls, h1.on hb, h2⟩
theorem PL.nil (w : World) (B : Nat) : PL w B none 0 0 [] := ⟨[], LK.none_ _ _, rfl⟩
theorem PL.more (h : PL w B A n c L) (hb : B ≤ B') : PL w B' A n c L := by
  obtain ⟨ls, h1, h2⟩ := h
  exact ⟨ls, h1.more hb, h2⟩
theorem PL.cap (h : PL w B A n c L) : n ≤ c ∧ c ≤ maxLen := by
  obtain ⟨ls, h1, h2⟩ := h
  exact ⟨h1.1, h1.2.1⟩
/-- Block k's bytes. -/
theorem PL.at_ (h : PL w B A n c L) (hk : k < n) : ∃ ad A1 n1 c1, A = some ad ∧ w.cell? (ad.add k) = some (.slice A1 n1 c1) ∧ SK .u8 w B A1 n1 c1 (eb (L.getD k [])) := by
  have hL := h.len
  obtain ⟨ls, h1, h2⟩ := h
  obtain ⟨ad, e, hc, hs⟩ := h1.at_ hk
  have hl : k < ls.length := by rw [h1.len]; exact hk
  have e2 : (ls.getD k dA).l = eb (L.getD k []) := by
    have := congrArg (fun l => l[k]?) h2
    simp only [List.getElem?_map, List.getElem?_eq_getElem hl, List.getElem?_eq_getElem (show k < L.length by omega), Option.map_some, Option.some.injEq] at this
    rw [List.getD_eq_getElem?_getD, List.getElem?_eq_getElem hl, List.getD_eq_getElem?_getD, List.getElem?_eq_getElem (show k < L.length by omega)]
    exact this
  rw [e2] at hs
  exact ⟨ad, _, _, _, e, hc, hs⟩
end
/-- Memory that isn't one of F's blocks. -/
def Av (F : Nat → Prop) (A : Option Addr) (n : Nat) : Prop := ∀ ad, A = some ad → 0 < n → ¬ F ad.block
/-- A posting list that lies in none of F's blocks. -/
def PLF (w : World) (F : Nat → Prop) (A : Option Addr) (n c : Nat) (L : List (List Nat)) : Prop := ∃ ls : List Ar, LK .u8 w w.heap.size A n c ls ∧ ls.map Ar.l = L.map eb ∧ Av F A n ∧ ∀ e ∈ ls, Av F e.A e.n
section
variable {w w' : World} {F G : Nat → Prop} {n c : Nat} {A : Option Addr} {L : List (List Nat)}
theorem PLF.pl (h : PLF w F A n c L) : PL w w.heap.size A n c L := by
  obtain ⟨ls, h1, h2, h3⟩ := h
  exact ⟨ls, h1, h2⟩
theorem PLF.len (h : PLF w F A n c L) : L.length = n := h.pl.len
theorem PLF.cap (h : PLF w F A n c L) : n ≤ c ∧ c ≤ maxLen := h.pl.cap
theorem PLF.nil (w : World) (F : Nat → Prop) : PLF w F none 0 0 [] := ⟨[], LK.none_ _ _, rfl, (by intro ad h; cases h), by simp⟩
theorem Reads.avoid {B k b : Nat} {A : Option Addr} {xs : List Value} (h : Reads w B 1 A k xs) (hv : Av F A k) (hb : F b) (u : Value) (o : Nat) : Reads (w.setCell ⟨b, o, none⟩ u) B 1 A k xs := by
  refine ⟨h.1, fun hk => ?_⟩
  obtain ⟨ad, e, hlt, hc⟩ := h.2 hk
  refine ⟨ad, e, hlt, fun j v hv' => ?_⟩
  rw [World.cell?_setCell_other _ _ _ _ (fun e' => hv ad e hk (by have := congrArg Addr.block e'; rw [block_of_add] at this; rw [← this]; exact hb))]
  exact hc j v hv'
theorem SK.avoid {κ : IntKind} {B k d b : Nat} {A : Option Addr} {l : List Int} (h : SK κ w B A k d l) (hv : Av F A k) (hb : F b) (u : Value) (o : Nat) : SK κ (w.setCell ⟨b, o, none⟩ u) B A k d l := ⟨h.1, h.2.1, h.2.2.1, h.2.2.2.avoid hv hb u o⟩
theorem PLF.far (h : PLF w F A n c L) {b : Nat} (hb : F b) (u : Value) (o : Nat) : PLF (w.setCell ⟨b, o, none⟩ u) F A n c L := by
  obtain ⟨ls, h1, h2, h3, h4⟩ := h
  refine ⟨ls, ?_, h2, h3, h4⟩
  have hs : (w.setCell ⟨b, o, none⟩ u).heap.size = w.heap.size := by simp
  rw [hs]
  exact ⟨h1.1, h1.2.1, h1.2.2.1, h1.2.2.2.1.avoid h3 hb u o, fun e he => (h1.2.2.2.2 e he).avoid (h4 e he) hb u o⟩
theorem PLF.on (h : PLF w F A n c L) (hb : Below w.heap.size w w') : PLF w' F A n c L := by
  obtain ⟨ls, h1, h2, h3, h4⟩ := h
  exact ⟨ls, h1.on hb, h2, h3, h4⟩
theorem PLF.mono (h : PLF w F A n c L) (hG : ∀ b, G b → F b) : PLF w G A n c L := by
  obtain ⟨ls, h1, h2, h3, h4⟩ := h
  exact ⟨ls, h1, h2, fun ad e hn hg => h3 ad e hn (hG _ hg), fun e' he ad e hn hg => h4 e' he ad e hn (hG _ hg)⟩
/-- New blocks are none of it. -/
theorem PLF.fresh (h : PLF w F A n c L) (hG : ∀ b, G b → F b ∨ w.heap.size ≤ b) : PLF w G A n c L := by
  obtain ⟨ls, h1, h2, h3, h4⟩ := h
  refine ⟨ls, h1, h2, fun ad e hn hg => ?_, fun e' he ad e hn hg => ?_⟩
  · rcases hG _ hg with q | q
    · exact h3 ad e hn q
    · obtain ⟨ad', e2, hlt, _⟩ := h1.2.2.2.1.2 hn
      rw [e] at e2; injection e2 with e2; subst e2; omega
  · rcases hG _ hg with q | q
    · exact h4 e' he ad e hn q
    · obtain ⟨ad', e2, hlt, _⟩ := (h1.2.2.2.2 e' he).2.2.2.2 hn
      rw [e] at e2; injection e2 with e2; subst e2; omega
theorem Mid.av {t : TypeId} {N k d : Nat} {xs : List Value} (h : Mid w N t 1 (.slice A k d) k xs) (hF : ∀ b, F b → b < N) : Av F A k := by
  intro ad e hk hf
  rcases h.2 with ⟨_, h0⟩ | ⟨g, off, cap, cur, h', hb, _⟩
  · omega
  · simp only [Value.slice.injEq, true_and] at h'
    rw [h'.1] at e; injection e with e; subst e
    have : g < N := hF _ hf
    omega
end
/-- A posting list by value. -/
@[reducible] def plV (A : Option Addr) (n c : Nat) : Value := .agg #[.slice A n c]
end Go.Proofs.Ytokjeglhmmijfaa
