/-
  What MergeTells builds: lists of lists in rows of the call's own, their rooms, all that counts; conditions: lengths.
-/
import Derived.Test.YthgjpdbajmfclaaMgi
namespace Go.Proofs.Ythgjpdbajmfclaa
open Go.RowKit Go.WideShapes Go.ChangeShapes
set_option linter.all false
def Sep (a b : Value) : Prop := ∀ g, a.ownBlock = some g → b.ownBlock ≠ some g
def rm (l : List Int) : List Int := l ++ List.replicate 80 (-5)
def fullOf (a : Ar) (g : Nat) : Ar := ⟨some ⟨g, 0, none⟩, a.n + 80, a.n + 80, rm a.l⟩
def givenOf (a : Ar) (g : Nat) : Ar := ⟨some ⟨g, 0, none⟩, a.n, a.n + 80, a.l⟩
def boxOf (a : Ar) (g : Nat) : Nat × List Int := (g, rm a.l)
/-- Three rows of the call's own and the rooms of one of them. -/
structure TS (N : Nat) (wr : World) (x1 x2 : List Value) (al : List Int) (bx : List (Nat × List Int)) (V1 V2 V3 : Value) : Prop where
  r1 : Mid wr N 22 1 V1 x1.length x1
  r2 : Mid wr N 22 1 V2 x2.length x2
  r3 : Mid wr N 3 1 V3 al.length (ks .i64 al)
  wb : ∀ p ∈ bx, WB .i64 3 wr p.1 p.2
  s12 : Sep V1 V2
  s3 : ∀ p ∈ bx, V3.ownBlock ≠ some p.1
  le : N ≤ wr.heap.size
theorem TS.nil (w : World) : TS w.heap.size w [] [] [] [] (.slice none 0 0) (.slice none 0 0) (.slice none 0 0) :=
  ⟨Mid.nil _ _ _ _, Mid.nil _ _ _ _, Mid.nil _ _ _ _, by simp, (fun g h => by cases h), by simp, Nat.le_refl _⟩
section
variable {N : Nat} {wr w' : World} {x1 x2 : List Value} {al : List Int} {bx : List (Nat × List Int)} {V1 V2 V3 V' : Value}
theorem TS.below (h : TS N wr x1 x2 al bx V1 V2 V3) (hb : Below wr.heap.size wr w') : TS N w' x1 x2 al bx V1 V2 V3 :=
  ⟨h.r1.same fun g hg => hb.block g (h.r1.lt g hg).2, h.r2.same fun g hg => hb.block g (h.r2.lt g hg).2, h.r3.same fun g hg => hb.block g (h.r3.lt g hg).2, fun p hp => (h.wb p hp).on hb, h.s12, h.s3, Nat.le_trans h.le hb.size⟩
theorem TS.wb22 (h : TS N wr x1 x2 al bx V1 V2 V3) {V : Value} {n : Nat} {xs : List Value} (hm : Mid wr N 22 1 V n xs) (hr : Ran V V' wr w') : ∀ p ∈ bx, WB .i64 3 w' p.1 p.2 := fun p hp => by
  have hw := h.wb p hp
  refine Blk.grown hw hr.grown (fun e => ?_)
  rcases hm.2 with ⟨rfl, _⟩ | ⟨g, off, cap, cur, rfl, _, hh, _⟩
  · cases e
  · have e' : p.1 = g := by simpa [Value.ownBlock] using e
    exact hw.ne_ hh (by decide) e'
theorem TS.ran1 (h : TS N wr x1 x2 al bx V1 V2 V3) {u : Value} (hr : Ran V1 V' wr w') (hm : Mid w' N 22 1 V' (x1.length + 1) (x1 ++ [u])) : TS N w' (x1 ++ [u]) x2 al bx V' V2 V3 := by
  refine ⟨by rw [List.length_append]; exact hm, h.r2.same fun g hg => hr.grown.block g (h.r2.lt g hg).2 (fun e => h.s12 g e.symm hg), h.r3.on_ran h.r1 (by decide) hr, h.wb22 h.r1 hr, ?_, h.s3, Nat.le_trans h.le hr.grown.size⟩
  intro g hg hg2
  rcases hr.at_ with e | e
  · exact h.s12 g (by rw [← e]; exact hg) hg2
  · have := e g hg; have := (h.r2.lt g hg2).2; omega
theorem TS.ran2 (h : TS N wr x1 x2 al bx V1 V2 V3) {u : Value} (hr : Ran V2 V' wr w') (hm : Mid w' N 22 1 V' (x2.length + 1) (x2 ++ [u])) : TS N w' x1 (x2 ++ [u]) al bx V1 V' V3 := by
  refine ⟨h.r1.same fun g hg => hr.grown.block g (h.r1.lt g hg).2 (fun e => h.s12 g hg e.symm), by rw [List.length_append]; exact hm, h.r3.on_ran h.r2 (by decide) hr, h.wb22 h.r2 hr, ?_, h.s3, Nat.le_trans h.le hr.grown.size⟩
  intro g hg hg2
  rcases hr.at_ with e | e
  · exact h.s12 g hg (by rw [← e]; exact hg2)
  · have := e g hg2; have := (h.r1.lt g hg).2; omega
theorem TS.ran3 (h : TS N wr x1 x2 al bx V1 V2 V3) {bl : List Int} (hr : Ran V3 V' wr w') (hm : Mid w' N 3 1 V' (al.length + bl.length) (ks .i64 (al ++ bl))) : TS N w' x1 x2 (al ++ bl) bx V1 V2 V' := by
  refine ⟨h.r1.on_ran h.r3 (by decide) hr, h.r2.on_ran h.r3 (by decide) hr, by rw [List.length_append]; exact hm, fun p hp => Blk.grown (h.wb p hp) hr.grown (fun e => h.s3 p hp e.symm), h.s12, fun p hp hg => ?_, Nat.le_trans h.le hr.grown.size⟩
  rcases hr.at_ with e | e
  · exact h.s3 p hp (by rw [← e]; exact hg)
  · have := e _ hg; have := Blk.lt (h.wb p hp); omega
theorem TS.room (h : TS N wr x1 x2 al bx V1 V2 V3) {l : List Int} (hb : Below wr.heap.size wr w') (hw : WB .i64 3 w' wr.heap.size l) : TS N w' x1 x2 al (bx ++ [(wr.heap.size, l)]) V1 V2 V3 := by
  have h' := h.below hb
  refine ⟨h'.r1, h'.r2, h'.r3, fun p hp => ?_, h'.s12, fun p hp => ?_, h'.le⟩
  · rw [List.mem_append, List.mem_singleton] at hp
    rcases hp with hp | rfl
    · exact h'.wb p hp
    · exact hw
  · rw [List.mem_append, List.mem_singleton] at hp
    rcases hp with hp | rfl
    · exact h'.s3 p hp
    · intro hg; have := (h.r3.lt _ hg).2; simp at this
end
theorem zip_snoc {β : Type} (f : Ar → Nat → β) : ∀ (own : List Ar) (gs : List Nat) (a : Ar) (g : Nat), own.length = gs.length → List.zipWith f (own ++ [a]) (gs ++ [g]) = List.zipWith f own gs ++ [f a g] := by
  intro own gs a g h
  rw [List.zipWith_append h]; rfl
/-- What the first loop holds behind k lists. -/
structure T1 (ls own : List Ar) (gs : List Nat) (al : List Int) (w wr : World) (k : Nat) (V1 V2 V3 : Value) : Prop where
  ts : TS w.heap.size wr (own.map Ar.v) ((List.zipWith fullOf own gs).map Ar.v) al (List.zipWith boxOf own gs) V1 V2 V3
  len : own.length = k
  lg : gs.length = k
  eo : own.map Ar.l = (ls.take k).map fun a => a.l.take 40
  eb : ∀ e ∈ own, SI w w.heap.size e.A e.n e.c e.l
  ea : al = (own.map Ar.l).flatMap asc
  below : Below w.heap.size w wr
theorem T1.nil (ls : List Ar) (w : World) : T1 ls [] [] [] w w 0 (.slice none 0 0) (.slice none 0 0) (.slice none 0 0) :=
  ⟨TS.nil w, rfl, rfl, rfl, by simp, rfl, Below.refl _ _⟩
theorem T1.n40 {ls own : List Ar} {gs : List Nat} {al : List Int} {w wr : World} {k : Nat} {V1 V2 V3 : Value} (h : T1 ls own gs al w wr k V1 V2 V3) : ∀ e ∈ own, e.l.length ≤ 40 ∧ e.n ≤ 40 := by
  intro e he
  have h1 : e.l ∈ own.map Ar.l := List.mem_map_of_mem he
  rw [h.eo] at h1
  obtain ⟨a, _, ha⟩ := List.mem_map.1 h1
  have h2 := (h.eb e he).len
  have h3 : e.l.length ≤ 40 := by rw [← ha, List.length_take]; omega
  exact ⟨h3, by omega⟩
theorem T1.len3 {ls own : List Ar} {gs : List Nat} {al : List Int} {w wr : World} {k : Nat} {V1 V2 V3 : Value} (h : T1 ls own gs al w wr k V1 V2 V3) : al.length ≤ 40 * k := by
  have h1 : ∀ L : List (List Int), (∀ l ∈ L, l.length ≤ 40) → (L.flatMap asc).length ≤ 40 * L.length := by
    intro L
    induction L with
    | nil => intro _; simp
    | cons a r ih =>
      intro hL
      have h2 := ih (fun l hl => hL l (by simp [hl]))
      have h3 := asc_len' a
      have h4 := hL a (by simp)
      rw [List.flatMap_cons, List.length_append, List.length_cons]; omega
  have h2 := h1 (own.map Ar.l) (fun l hl => by
    obtain ⟨e, he, rfl⟩ := List.mem_map.1 hl
    exact (h.n40 e he).1)
  rw [h.ea]; rw [List.length_map, h.len] at h2; exact h2
/-- One list more. -/
theorem T1.next {ls own : List Ar} {gs : List Nat} {al : List Int} {w wr w1 w2 w3 w4 w5 : World} {k : Nat} {V1 V2 V3 V1' V2' V3' : Value} {a : Ar} (h : T1 ls own gs al w wr k V1 V2 V3) (hk : k < ls.length) (hl : a.l = (ls.getD k dA).l.take 40) (ha : SI w w.heap.size a.A a.n a.c a.l)
    (r1 : Ran V1 V1' wr w1) (m1 : Mid w1 w.heap.size 22 1 V1' (k + 1) (own.map Ar.v ++ [a.v]))
    (b2 : Below w1.heap.size w1 w2) (q2 : WB .i64 3 w2 w1.heap.size (rm a.l))
    (r3 : Ran V2 V2' w2 w3) (m3 : Mid w3 w.heap.size 22 1 V2' (k + 1) ((List.zipWith fullOf own gs).map Ar.v ++ [(fullOf a w1.heap.size).v]))
    (b4 : Below w3.heap.size w3 w4)
    (r5 : Ran V3 V3' w4 w5) (m5 : Mid w5 w.heap.size 3 1 V3' (al.length + (asc a.l).length) (ks .i64 (al ++ asc a.l))) :
    T1 ls (own ++ [a]) (gs ++ [w1.heap.size]) (al ++ asc a.l) w w5 (k + 1) V1' V2' V3' := by
  have hlen : own.length = gs.length := h.len.trans h.lg.symm
  have l2 : ((List.zipWith fullOf own gs).map Ar.v).length = k := by rw [List.length_map, List.length_zipWith, h.len, h.lg, Nat.min_self]
  have s1 := h.ts.ran1 r1 (by rw [List.length_map, h.len]; exact m1)
  have s2 := s1.room b2 q2
  have s3 := s2.ran2 r3 (by rw [l2]; exact m3)
  have s4 := s3.below b4
  have s5 := s4.ran3 r5 m5
  have hb1 : Below w.heap.size wr w1 := (Below.refl _ _).grown r1.grown h.ts.le (fun g hg => (h.ts.r1.lt g hg).1)
  have hb3 : Below w.heap.size w2 w3 := (Below.refl _ _).grown r3.grown s2.le (fun g hg => (s2.r2.lt g hg).1)
  have hb5 : Below w.heap.size w4 w5 := (Below.refl _ _).grown r5.grown s4.le (fun g hg => (s4.r3.lt g hg).1)
  refine ⟨?_, by rw [List.length_append, h.len]; rfl, by rw [List.length_append, h.lg]; rfl, ?_, ?_, ?_, ((((h.below.trans hb1).trans (b2.mono s1.le)).trans hb3).trans (b4.mono s3.le)).trans hb5⟩
  · rw [zip_snoc fullOf own gs a _ hlen, zip_snoc boxOf own gs a _ hlen, List.map_append, List.map_append]
    exact s5
  · rw [List.take_succ_eq_append_getElem hk, List.map_append, List.map_append, h.eo, List.map_singleton, List.map_singleton, hl, List.getD_eq_getElem?_getD, List.getElem?_eq_getElem hk]; rfl
  · intro e he
    rw [List.mem_append, List.mem_singleton] at he
    rcases he with he | rfl
    · exact h.eb e he
    · exact ha
  · rw [List.map_append, List.flatMap_append, ← h.ea]; simp
theorem zip_get {β : Type} (f : Ar → Nat → β) (d : β) {own : List Ar} {gs : List Nat} {i : Nat} (h1 : i < own.length) (h2 : i < gs.length) : (List.zipWith f own gs).getD i d = f (own.getD i dA) (gs.getD i 0) := by
  simp [List.getD_eq_getElem?_getD, List.getElem?_zipWith, List.getElem?_eq_getElem h1, List.getElem?_eq_getElem h2]
theorem zip_mem {β : Type} (f : Ar → Nat → β) {own : List Ar} {gs : List Nat} {y : β} (h : y ∈ List.zipWith f own gs) : ∃ i, i < own.length ∧ i < gs.length ∧ y = f (own.getD i dA) (gs.getD i 0) := by
  obtain ⟨i, hi, rfl⟩ := List.mem_iff_getElem.1 h
  rw [List.length_zipWith] at hi
  refine ⟨i, by omega, by omega, ?_⟩
  have := zip_get f (f dA 0) (own := own) (gs := gs) (i := i) (by omega) (by omega)
  rw [List.getD_eq_getElem?_getD, List.getElem?_eq_getElem (by rw [List.length_zipWith]; omega)] at this
  exact this
/-- What is held behind the first loop. -/
structure T2 (own : List Ar) (gs : List Nat) (wr : World) (k : Nat) (A1 A2 : Option Addr) (c1 c2 : Nat) : Prop where
  own_ : LL wr wr.heap.size A1 k c1 own
  full : LL wr wr.heap.size A2 k c2 (List.zipWith fullOf own gs)
  wb : ∀ i, i < k → WB .i64 3 wr (gs.getD i 0) (rm (own.getD i dA).l) ∧ gs.getD i 0 < wr.heap.size
  len : own.length = k
  lg : gs.length = k
  n40 : ∀ e ∈ own, e.l.length ≤ 40 ∧ e.n ≤ 40
theorem T2.on {own : List Ar} {gs : List Nat} {wr w' : World} {k : Nat} {A1 A2 : Option Addr} {c1 c2 : Nat} (h : T2 own gs wr k A1 A2 c1 c2) (hb : Below wr.heap.size wr w') : T2 own gs w' k A1 A2 c1 c2 :=
  ⟨h.own_.on hb, h.full.on hb, fun i hi => ⟨(h.wb i hi).1.on hb, by have := (h.wb i hi).2; have := hb.size; omega⟩, h.len, h.lg, h.n40⟩
theorem WB.si {w : World} {g n : Nat} {l : List Int} (h : WB .i64 3 w g (rm l)) (hl : l.length = n) (hn : n ≤ 1000) : SI w w.heap.size (some ⟨g, 0, none⟩) n (n + 80) l ∧ SI w w.heap.size (some ⟨g, 0, none⟩) (n + 80) (n + 80) (rm l) := by
  have hg := Blk.lt h
  have hr := h.reads w.heap.size hg 0 (n + 80) (by simp [rm, hl])
  rw [List.drop_zero, List.take_of_length_le (by simp [rm, hl])] at hr
  have h2 : n + 80 ≤ maxLen := by unfold maxLen; omega
  exact ⟨⟨by omega, h2, (fun e => by cases e), room_reads h hg hl⟩, ⟨Nat.le_refl _, h2, (fun e => by cases e), hr⟩⟩
theorem row_ll {w : World} {N n c : Nat} {A : Option Addr} {own : List Ar} (h : Mid w N 22 1 (.slice A n c) n (own.map Ar.v)) (he : ∀ e ∈ own, SI w w.heap.size e.A e.n e.c e.l) : LL w w.heap.size A n c own :=
  ⟨h.room.1, h.room.2, fun e => by have := h.nocap e; have := h.room.1; omega, h.reads, he⟩
theorem T1.done {ls own : List Ar} {gs : List Nat} {al : List Int} {w wr : World} {k c1 c2 : Nat} {A1 A2 : Option Addr} {V3 : Value} (h : T1 ls own gs al w wr k (.slice A1 k c1) (.slice A2 k c2) V3) : T2 own gs wr k A1 A2 c1 c2 := by
  have lz : (List.zipWith fullOf own gs).length = k := by rw [List.length_zipWith, h.len, h.lg, Nat.min_self]
  have hwb : ∀ i, i < k → WB .i64 3 wr (gs.getD i 0) (rm (own.getD i dA).l) := fun i hi => by
    have hm : boxOf (own.getD i dA) (gs.getD i 0) ∈ List.zipWith boxOf own gs := by
      have e := zip_get boxOf (0, []) (own := own) (gs := gs) (i := i) (by rw [h.len]; exact hi) (by rw [h.lg]; exact hi)
      rw [← e, List.getD_eq_getElem?_getD, List.getElem?_eq_getElem (by rw [List.length_zipWith, h.len, h.lg]; omega)]
      exact List.getElem_mem _
    exact h.ts.wb _ hm
  refine ⟨row_ll (by have := h.ts.r1; rw [List.length_map, h.len] at this; exact this) (fun e he => ((h.eb e he).below h.below).more h.below.size), row_ll (by have := h.ts.r2; rw [List.length_map, lz] at this; exact this) (fun e he => ?_), fun i hi => ⟨hwb i hi, Blk.lt (hwb i hi)⟩, h.len, h.lg, h.n40⟩
  obtain ⟨i, h1, h2, rfl⟩ := zip_mem fullOf he
  have hm : own.getD i dA ∈ own := getA_mem h1
  exact ((hwb i (by rw [← h.len]; exact h1)).si (h.eb _ hm).len (by have := (h.n40 _ hm).2; omega)).2
/-- The lists as they are given. -/
theorem T2.given {own : List Ar} {gs : List Nat} {wr : World} {k : Nat} {A1 A2 : Option Addr} {c1 c2 : Nat} (h : T2 own gs wr k A1 A2 c1 c2) : ∀ e ∈ List.zipWith givenOf own gs, SI wr wr.heap.size e.A e.n e.c e.l := fun e he => by
  obtain ⟨i, h1, h2, rfl⟩ := zip_mem givenOf he
  have hm : own.getD i dA ∈ own := getA_mem h1
  exact ((h.wb i (by rw [← h.len]; exact h1)).1.si ((h.own_.2.2.2.2 _ hm).len) (by have := (h.n40 _ hm).2; omega)).1
theorem given_l {own : List Ar} {gs : List Nat} (h : own.length = gs.length) : (List.zipWith givenOf own gs).map Ar.l = own.map Ar.l := by
  apply List.ext_getElem
  · simp [h]
  · intro i h1 h2; simp [givenOf]
theorem given_len {own : List Ar} {gs : List Nat} {k : Nat} (h : own.length = k) (h2 : gs.length = k) : (List.zipWith givenOf own gs).length = k := by
  rw [List.length_zipWith, h, h2, Nat.min_self]
/-- How many of the lists have x. -/
def cnt (own : List Ar) (x : Int) : Nat := (own.filter fun e => decide (x ∈ asc e.l)).length
theorem cnt_next {own : List Ar} {k : Nat} (h : k < own.length) (x : Int) : cnt (own.take (k + 1)) x = cnt (own.take k) x + (if decide (x ∈ asc (own.getD k dA).l) = true then 1 else 0) := by
  have e : own.take (k + 1) = own.take k ++ [own.getD k dA] := by
    rw [List.take_succ_eq_append_getElem h, List.getD_eq_getElem?_getD, List.getElem?_eq_getElem h]; rfl
  unfold cnt
  rw [e, List.filter_append, List.length_append]
  congr 1
  rw [List.filter_cons, List.filter_nil]
  split <;> rfl
theorem cnt_le (own : List Ar) (x : Int) : cnt own x ≤ own.length := List.length_filter_le _ _
def inB (own : List Ar) (x : Int) : Bool := decide (cnt own x = own.length)
theorem inB_iff (own : List Ar) (x : Int) : inB own x = true ↔ ∀ e ∈ own, x ∈ asc e.l := by
  unfold inB cnt
  rw [decide_eq_true_eq, List.length_filter_eq_length_iff]
  simp
theorem inter_all : ∀ (ls : List (List Int)) (R : List Int), SortedI R → SortedI (ls.foldl (fun R b => flt b true (asc R)) R) ∧ ∀ y, y ∈ ls.foldl (fun R b => flt b true (asc R)) R ↔ y ∈ R ∧ ∀ l ∈ ls, y ∈ asc l
  | [], R, h => ⟨h, fun y => by simp⟩
  | b :: r, R, h => by
    have h1 : SortedI (flt b true (asc R)) := flt_sorted (asc_sorted R)
    obtain ⟨h2, h3⟩ := inter_all r (flt b true (asc R)) h1
    refine ⟨h2, fun y => ?_⟩
    rw [List.foldl_cons, h3, flt_mem, decide_eq_true_eq, asc_of_sorted R h]
    simp only [List.mem_cons, forall_eq_or_imp, and_assoc]
/-- The document's meet. -/
theorem inter_eq (a : Ar) (own : List Ar) : interL ((a :: own).map Ar.l) = (uni ((a :: own).map Ar.l)).filter (inB (a :: own)) := by
  obtain ⟨h1, h2⟩ := inter_all (own.map Ar.l) (asc a.l) (asc_sorted a.l)
  refine sorted_eq h1 ((uni_sorted _).filter _) fun y => ?_
  have e : y ∈ interL ((a :: own).map Ar.l) ↔ y ∈ asc a.l ∧ ∀ l ∈ own.map Ar.l, y ∈ asc l := h2 y
  refine e.trans ?_
  rw [List.mem_filter, inB_iff, uni_mem]
  constructor
  · rintro ⟨p, q⟩
    refine ⟨⟨a.l, by simp, p⟩, fun e he => ?_⟩
    rcases List.mem_cons.1 he with rfl | he
    · exact p
    · exact q _ (List.mem_map_of_mem he)
  · rintro ⟨_, q⟩
    refine ⟨q a (by simp), fun l hl => ?_⟩
    obtain ⟨e, he, rfl⟩ := List.mem_map.1 hl
    exact q e (by simp [he])
theorem filter_snoc {U : List Int} {p : Int → Bool} {q : Nat} (h : q < U.length) : (U.take (q + 1)).filter p = (U.take q).filter p ++ (if p (U.getD q 0) = true then [U.getD q 0] else []) := by
  rw [takeI_snoc h, List.filter_append, List.filter_cons, List.filter_nil]
set_option maxRecDepth 100000 in
theorem inter_zero (A : Option Addr) (c : Nat) (w : World) : Calls Try.prog 10 #[.slice A 0 c] w (LP [] w) := by
  go_enter Try.func10, Try.ntmps10
  go_wp2
  go_ret
  exact ⟨none, 0, 0, rfl, SI.nil _ _, Below.refl _ _⟩
end Go.Proofs.Ythgjpdbajmfclaa
