/-
  The law PoolPlays' memory: the pool and the document's own; no condition.
-/
import Derived.Test.YtdkokpaboipamaaPn3
import Derived.Test.YtdkokpaboipamaaPm5
namespace Go.Proofs.Ytdkokpaboipamaa
open Go.RowKit Go.WideShapes Go.ChangeShapes
set_option linter.all false
/-- The pool at P with its numbers at I, the document's own at Q: both of the same numbers. -/
structure Two (W : World) (P I Q k : Nat) (v : Value) (xs : List Int) (A : Option Addr) (c : Nat) (ys : List Int) (w : World) : Prop where
  st : St W.heap.size P I k v xs w
  rp : RefP Q 0 k A c ys w
  cm : c ≤ maxLen
  hq : P ≠ Q ∧ I ≠ Q ∧ some Q ≠ v.ownBlock ∧ W.heap.size ≤ Q
  ha : ∀ ad, A = some ad → ad.block ≠ P ∧ ad.block ≠ I ∧ some ad.block ≠ v.ownBlock ∧ ad.block < w.heap.size
  bel : Below W.heap.size W w
section
variable {W : World} {P I Q k c : Nat} {v : Value} {xs ys : List Int} {A : Option Addr} {w w' : World}
theorem RefP.same (h : RefP Q 0 k A c ys w) (hs : w.heap.size ≤ w'.heap.size) (hq : w'.heap[Q]? = w.heap[Q]?) (ha : ∀ ad, A = some ad → w'.heap[ad.block]? = w.heap[ad.block]?) : RefP Q 0 k A c ys w' :=
  ⟨(World.cell?_of_block (a := ⟨Q, 0, none⟩) hq).trans h.c0, (World.cell?_of_block (a := ⟨Q, 1, none⟩) hq).trans h.c1, (World.frozen?_of_block (a := ⟨Q, 1, none⟩) hq).trans h.f1,
    ⟨h.rd.1, fun hn => by
      obtain ⟨ad, e, hb, hc⟩ := h.rd.2 hn
      exact ⟨ad, e, by omega, fun j u hu => (World.cell?_of_block (a := ad.add j) (by rw [block_of_add]; exact ha ad e)).trans (hc j u hu)⟩⟩, h.cap, h.far⟩
theorem St.same2 (h : St W.heap.size P I k v xs w) (hb : ∀ b, b < w.heap.size → b ≠ Q → w'.heap[b]? = w.heap[b]?) (h1 : Q ≠ P) (h2 : Q ≠ I) (h3 : some Q ≠ v.ownBlock) : St W.heap.size P I k v xs w' := by
  have lP : P < w.heap.size := World.block_lt_of_cell? _ _ h.hp.cell
  have hI := h.hI
  have eP := hb P lP (Ne.symm h1)
  have eI := hb I (by omega) (Ne.symm h2)
  refine ⟨⟨(World.cell?_of_block eP).trans h.hp.cell, (World.frozen?_of_block eP).trans h.hp.free, h.hp.own.1, ?_⟩, (World.cell?_of_block eP).trans h.c1, fun j hj => (World.cell?_of_block (a := ⟨I, j, none⟩) eI).trans (h.row j hj),
    fun j hj => (World.frozen?_of_block (a := ⟨I, j, none⟩) eI).trans (h.frow j hj), h.hI, h.hN, h.heap, h.nodup, h.rng⟩
  rcases h.hp.own.2 with hn | ⟨g, cap, cur, hv, hgb, hgg, rest⟩
  · exact .inl hn
  · have hg := (h.hp.own.lt g (by rw [hv]; rfl)).2
    exact .inr ⟨g, cap, cur, hv, hgb, (hb g hg (fun e => h3 (by rw [hv, ← e]; rfl))).trans hgg, rest⟩
theorem Two.below (h : Two W P I Q k v xs A c ys w) (hb : Below w.heap.size w w') : Two W P I Q k v xs A c ys w' := by
  have lQ : Q < w.heap.size := World.block_lt_of_cell? _ _ h.rp.c0
  have lP : P < w.heap.size := World.block_lt_of_cell? _ _ h.st.hp.cell
  have hI := h.st.hI
  have eP := hb.block P lP
  have eI := hb.block I (by omega)
  refine ⟨⟨⟨(World.cell?_of_block eP).trans h.st.hp.cell, (World.frozen?_of_block eP).trans h.st.hp.free, h.st.hp.own.1, ?_⟩, (World.cell?_of_block eP).trans h.st.c1, fun j hj => (World.cell?_of_block (a := ⟨I, j, none⟩) eI).trans (h.st.row j hj),
    fun j hj => (World.frozen?_of_block (a := ⟨I, j, none⟩) eI).trans (h.st.frow j hj), h.st.hI, h.st.hN, h.st.heap, h.st.nodup, h.st.rng⟩,
    h.rp.same hb.size (hb.block Q lQ) fun ad e => hb.block _ (h.ha ad e).2.2.2, h.cm, h.hq, fun ad e => ⟨(h.ha ad e).1, (h.ha ad e).2.1, (h.ha ad e).2.2.1, by have := (h.ha ad e).2.2.2; have := hb.size; omega⟩, h.bel.trans (hb.mono h.bel.size)⟩
  rcases h.st.hp.own.2 with hn | ⟨g, cap, cur, hv, hgb, hgg, rest⟩
  · exact .inl hn
  · have hg := (h.st.hp.own.lt g (by rw [hv]; rfl)).2
    exact .inr ⟨g, cap, cur, hv, hgb, (hb.block g hg).trans hgg, rest⟩
/-- The pool has turned: the document's own stays. -/
theorem Two.pool (h : Two W P I Q k v xs A c ys w) {v' : Value} {xs' : List Int} (hk : Kept P I v v' w w') : RefP Q 0 k A c ys w' ∧ some Q ≠ v'.ownBlock ∧ (∀ ad, A = some ad → ad.block ≠ P ∧ ad.block ≠ I ∧ some ad.block ≠ v'.ownBlock ∧ ad.block < w'.heap.size) ∧ Below W.heap.size W w' := by
  have lQ : Q < w.heap.size := World.block_lt_of_cell? _ _ h.rp.c0
  obtain ⟨q1, q2, q3, q4⟩ := h.hq
  refine ⟨h.rp.same hk.size (hk.block Q lQ (Ne.symm q1) (Ne.symm q2) q3) fun ad e => ?_, fun e => q3 (hk.row Q lQ e), fun ad e => ?_, hk.below h.st h.bel⟩
  · obtain ⟨a1, a2, a3, a4⟩ := h.ha ad e
    exact hk.block _ a4 a1 a2 a3
  · obtain ⟨a1, a2, a3, a4⟩ := h.ha ad e
    exact ⟨a1, a2, fun e' => a3 (hk.row _ a4 e'), by have := hk.size; omega⟩
/-- The document's own has turned: the pool stays. -/
theorem Two.refd (h : Two W P I Q k v xs A c ys w) (hk : KeptR Q w w') : St W.heap.size P I k v xs w' ∧ Below W.heap.size W w' := by
  obtain ⟨q1, q2, q3, q4⟩ := h.hq
  refine ⟨h.st.same2 hk.block (Ne.symm q1) (Ne.symm q2) q3, ⟨hk.os.trans h.bel.os, hk.tape.trans h.bel.tape, hk.output.trans h.bel.output, Nat.le_trans h.bel.size hk.size, fun b hb => (hk.block b (by have := h.bel.size; omega) (by omega)).trans (h.bel.block b hb)⟩⟩
/-- The same numbers, in their order. -/
structure Rel (ys xs : List Int) : Prop where
  srt : ys.Pairwise (· < ·)
  mem : ∀ z, z ∈ ys ↔ z ∈ xs
theorem Two.len (h : Two W P I Q k v xs A c ys w) (r : Rel ys xs) : ys.length = xs.length := by
  have hy : ys.Nodup := r.srt.imp fun hlt => by intro e; omega
  have hp : ys.Perm xs := (List.perm_ext_iff_of_nodup hy h.st.nodup).2 r.mem
  exact hp.length_eq
theorem Two.afterPool (h : Two W P I Q k v xs A c ys w) {v' : Value} {xs' : List Int} (hs : St W.heap.size P I k v' xs' w') (hk : Kept P I v v' w w') : Two W P I Q k v' xs' A c ys w' := by
  obtain ⟨a1, a2, a3, a4⟩ := h.pool (xs' := xs') hk
  obtain ⟨q1, q2, q3, q4⟩ := h.hq
  exact ⟨hs, a1, h.cm, ⟨q1, q2, a2, q4⟩, a3, a4⟩
theorem Two.afterRef (h : Two W P I Q k v xs A c ys w) {A' : Option Addr} {c' : Nat} {ys' : List Int} (hr : RefP Q 0 k A' c' ys' w') (hc : c' ≤ maxLen) (hk : KeptR Q w w')
    (ha : ∀ ad, A' = some ad → ad.block ≠ P ∧ ad.block ≠ I ∧ some ad.block ≠ v.ownBlock ∧ ad.block < w'.heap.size) : Two W P I Q k v xs A' c' ys' w' := by
  obtain ⟨a1, a2⟩ := h.refd hk
  exact ⟨a1, hr, hc, h.hq, ha, a2⟩
theorem Two.putRef (h : Two W P I Q k v xs A c ys w) (r : ys.Pairwise (· < ·)) {n : Int} (hp : PutOk Q w n ys w') : ∃ A' c' ys', Two W P I Q k v xs A' c' ys' w' ∧ ys'.Pairwise (· < ·) ∧ ∀ z, z ∈ ys' ↔ z = n ∨ z ∈ ys := by
  obtain ⟨i, A', c', hi, hb, ha, hR, hk, hc, hfar⟩ := hp.refp h.rp
  have lP : P < w.heap.size := World.block_lt_of_cell? _ _ h.st.hp.cell
  have hI := h.st.hI
  refine ⟨A', c', insF ys n i, h.afterRef hR hc hk fun ad e => ?_, insF_sorted r hi hb ha, fun z => insF_mem z⟩
  have h1 := hfar ad e
  refine ⟨by omega, by omega, fun e' => ?_, ?_⟩
  · have := (h.st.hp.own.lt ad.block e'.symm).2; omega
  · obtain ⟨ad', e', hlt, _⟩ := hR.rd.2 (by unfold insF; simp; omega)
    rw [e] at e'
    injection e' with e'
    rw [e']; exact hlt
theorem Rel.put {n : Int} (r : Rel ys xs) {ys' : List Int} (hs : ys'.Pairwise (· < ·)) (hm : ∀ z, z ∈ ys' ↔ z = n ∨ z ∈ ys) : Rel ys' (pushF xs n) :=
  ⟨hs, fun z => by rw [hm, (pushF_perm xs n).mem_iff, List.mem_cons, r.mem]⟩
theorem Two.takeRef {y : Int} (h : Two W P I Q k v xs A c (y :: ys) w) (hr : RefP Q 0 k (if c = 1 then A else A.map (·.add 1)) (c - 1) ys w') (hk : KeptR Q w w') : Two W P I Q k v xs (if c = 1 then A else A.map (·.add 1)) (c - 1) ys w' := by
  refine h.afterRef hr (by have := h.cm; omega) hk fun ad e => ?_
  have : ∃ a, A = some a ∧ ad.block = a.block := by
    split at e
    · exact ⟨ad, e, rfl⟩
    · rcases A with _ | a
      · cases e
      · simp only [Option.map_some, Option.some.injEq] at e
        exact ⟨a, rfl, by rw [← e, block_of_add]⟩
  obtain ⟨a, ea, eb⟩ := this
  obtain ⟨b1, b2, b3, b4⟩ := h.ha a ea
  rw [eb]
  exact ⟨b1, b2, b3, by have := hk.size; omega⟩
theorem Rel.nil (r : Rel ys []) : ys = [] := by
  cases ys with
  | nil => rfl
  | cons y l => exact absurd ((r.mem y).1 (List.mem_cons_self)) (by simp)
/-- The least of both. -/
theorem Rel.cons (r : Rel ys xs) (hx : xs ≠ []) (hh : Heaped xs xs.length) (hd : xs.Nodup) : ∃ ys', ys = xs.getD 0 0 :: ys' ∧ Rel ys' (popF xs) := by
  have hp := List.length_pos_iff.2 hx
  have hm0 := getD_mem xs hp
  have hle := least_mem hh
  cases ys with
  | nil => exact absurd ((r.mem _).2 hm0) (by simp)
  | cons y l =>
    have hs := List.pairwise_cons.1 r.srt
    have hy : y ∈ xs := (r.mem y).1 (List.mem_cons_self)
    have h1 := hle y hy
    have h2 : y ≤ xs.getD 0 0 := by
      rcases List.mem_cons.1 ((r.mem _).2 hm0) with h | h
      · omega
      · have := hs.1 _ h; omega
    have e : y = xs.getD 0 0 := by omega
    refine ⟨l, by rw [e], hs.2, fun z => ?_⟩
    rw [popF_mem xs hx hd]
    constructor
    · intro hz
      refine ⟨(r.mem z).1 (List.mem_cons_of_mem _ hz), fun e' => ?_⟩
      have := hs.1 z hz
      omega
    · rintro ⟨h3, h4⟩
      rcases List.mem_cons.1 ((r.mem z).2 h3) with h | h
      · exact absurd (h.trans e) h4
      · exact h
end
end Go.Proofs.Ytdkokpaboipamaa
