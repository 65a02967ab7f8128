/-
  The document's own pool: Put and Take, told by lists; conditions: sizes.
  The document's own pool: Put onto a list; conditions: sizes.
  The document's own pool and the pool side by side; conditions: sizes.
  The reference's sizes, poison and fill; conditions: lengths.
  The reference's arena: which slot a ref names; no condition but that there are few slots.
  The reference's arena: its state, and Load; conditions: lengths.
  The reference's arena: Store and Swap; conditions: lengths.
  The reference's arena: Alloc; conditions: lengths.
  The reference's arena: FreeSlot; conditions: lengths.
-/
import Derived.Test.YtndmpdpmfieacaaArQ
import Derived.Test.YtndmpdpmfieacaaAnyT
import Derived.BigRegion
namespace Go.Proofs.Ytndmpdpmfieacaa
open Go.RowKit Go.WideShapes Go.ChangeShapes
set_option linter.all false
/-- The document's pool at Q: most and the list. -/
structure RefP (Q o B : Nat) (most : Int) (A : Option Addr) (c : Nat) (ys : List Int) (w : World) : Prop where
  c0 : w.cell? ⟨Q, o, none⟩ = some (.int .i64 most)
  c1 : w.cell? ⟨Q, o + 1, none⟩ = some (.slice A ys.length c)
  f1 : w.frozen? ⟨Q, o + 1, none⟩ = false
  rd : Reads w w.heap.size 1 A ys.length (ints ys)
  cap : ys.length ≤ c
  far : ∀ ad, A = some ad → ad.block ≠ Q
/-- What a call on it did: only Q has turned, and what is new. -/
structure KeptR (Q o : Nat) (w w' : World) : Prop where
  os : w'.os = w.os
  tape : w'.tape = w.tape
  output : w'.output = w.output
  size : w.heap.size ≤ w'.heap.size
  block : ∀ b, b < w.heap.size → b ≠ Q → w'.heap[b]? = w.heap[b]?
  cells : ∀ i, i ≠ o + 1 → w'.cell? ⟨Q, i, none⟩ = w.cell? ⟨Q, i, none⟩
  frz : ∀ i, w'.frozen? ⟨Q, i, none⟩ = w.frozen? ⟨Q, i, none⟩
set_option maxRecDepth 100000 in
set_option maxHeartbeats 400000 in
theorem rtake_no (Q o B : Nat) (most : Int) (A : Option Addr) (c : Nat) (w : World) (h : RefP Q o B most A c [] w) :
    Calls Try.prog 60 #[.pointer (some ⟨Q, o, none⟩)] w fun e w' => e = .returned (.tuple #[.int .i64 0, .bool false]) ∧ w' = w := by
  have h1 := h.c1
  simp only [List.length_nil] at h1
  clear h
  go_enter Try.func60, Try.ntmps60
  go_wp2
  go_ret2
  exact ⟨rfl, rfl⟩
theorem RefP.tail {Q o B c : Nat} {most y : Int} {A : Option Addr} {ys : List Int} {w : World} (h : RefP Q o B most A c (y :: ys) w) :
    RefP Q o B most (if c = 1 then A else A.map (·.add 1)) (c - 1) ys (w.setCell ⟨Q, o + 1, none⟩ (.slice (if c = 1 then A else A.map (·.add 1)) ys.length (c - 1))) := by
  have hl : (y :: ys).length = ys.length + 1 := rfl
  have hc := h.cap
  rw [hl] at hc
  have hr := h.rd.cut (k := 1) (cap := c) (by rw [hl]; omega) (by rw [hl]; omega)
  have e : (y :: ys).length - 1 = ys.length := by simp
  rw [e] at hr
  have hd : (ints (y :: ys)).drop (1 * 1) = ints ys := rfl
  rw [hd] at hr
  have hfar : ∀ ad, (if c = 1 then A else A.map (·.add (1 * 1))) = some ad → ad.block ≠ Q := by
    intro ad ha
    split at ha
    · exact h.far ad ha
    · rcases A with _ | a
      · cases ha
      · simp only [Option.map_some, Option.some.injEq] at ha
        rw [← ha, block_of_add]; exact h.far a rfl
  refine ⟨(World.cell?_setCell_other w _ _ _ (by simp)).trans h.c0, World.cell?_setCell_same _ _ _ h.c1, by rw [World.frozen?_setCell]; exact h.f1, ⟨hr.1, fun hn => ?_⟩, by omega, hfar⟩
  obtain ⟨ad, ha, hb, hcell⟩ := hr.2 hn
  refine ⟨ad, ha, by simpa using hb, fun j u hu => (World.cell?_setCell_far w _ _ _ ?_).trans (hcell j u hu)⟩
  rw [block_of_add]; exact Ne.symm (hfar ad ha)
set_option maxRecDepth 100000 in
set_option maxHeartbeats 400000 in
theorem rtake_yes (Q o B : Nat) (most y : Int) (A : Option Addr) (c : Nat) (ys : List Int) (w : World) (h : RefP Q o B most A c (y :: ys) w) (hlen : ys.length < 900000) (hcm : c ≤ maxLen) :
    Calls Try.prog 60 #[.pointer (some ⟨Q, o, none⟩)] w fun e w' => e = .returned (.tuple #[.int .i64 y, .bool true]) ∧ RefP Q o B most (if c = 1 then A else A.map (·.add 1)) (c - 1) ys w' ∧ KeptR Q o w w' := by
  have ht := h.tail
  have h1 := h.c1
  have hf := h.f1
  have hcap := h.cap
  have hl : (y :: ys).length = ys.length + 1 := rfl
  rw [hl] at h1 hcap
  obtain ⟨ad, ha, hb, hcell⟩ := h.rd.2 (by simp)
  subst ha
  have hc0 := hcell 0 (.int .i64 y) rfl
  have e0 : ad.add 0 = ad := rfl
  rw [e0] at hc0
  unfold maxLen at hcm
  generalize hn : ys.length = n at *
  have HN := Lib.hid hn
  have HT := Lib.hid ht
  clear hn ht h hcell hl
  have K : ∀ u, KeptR Q o w (w.setCell ⟨Q, o + 1, none⟩ u) := fun u => ⟨rfl, rfl, rfl, by simp, fun b _ hq => Below.heap_setCell w _ _ b hq, fun i hi => World.cell?_setCell_other w _ _ _ (by first | (simp [hi, Ne.symm hi]; done) | (simp; omega)), fun i => by rw [World.frozen?_setCell]⟩
  by_cases hc1 : c = 1
  · subst hc1
    obtain rfl : n = 0 := by omega
    go_enter Try.func60, Try.ntmps60
    go_wp2
    go_ret2
    exact ⟨rfl, by simpa using HT.out, K _⟩
  · go_enter Try.func60, Try.ntmps60
    go_wp2
    go_ret2
    refine ⟨rfl, ?_, K _⟩
    have := HT.out
    rw [if_neg hc1] at this
    exact this
/-- What stands where a number comes in. -/
def insF (ys : List Int) (n : Int) (k : Nat) : List Int := ys.take k ++ [n] ++ ys.drop k
theorem ints_append (a b : List Int) : ints (a ++ b) = ints a ++ ints b := by simp [ints]
theorem Reads.head {w : World} {B size n : Nat} {A : Option Addr} {xs : List Value} (h : Reads w B size A n xs) {k : Nat} (hk : k ≤ n) : Reads w B size A k (xs.take (k * size)) := by
  refine ⟨by rw [List.length_take, h.1]; exact Nat.min_eq_left (Nat.mul_le_mul_right _ hk), fun hn => ?_⟩
  obtain ⟨ad, e, hb, hc⟩ := h.2 (by omega)
  refine ⟨ad, e, hb, fun j u hu => hc j u ?_⟩
  rw [List.getElem?_take] at hu
  split at hu
  · exact hu
  · cases hu
end Go.Proofs.Ytndmpdpmfieacaa

namespace Go.Proofs.Ytndmpdpmfieacaa
open Go.RowKit Go.WideShapes Go.ChangeShapes
set_option linter.all false
attribute [local go_sem ↓] Go.wp_at_zero Go.wp_at_succ
theorem below_next {ys : List Int} {n : Int} {i : Nat} (h : ∀ m, m < i → ys.getD m 0 < n) (hi : ys.getD i 0 < n) : ∀ m, m < i + 1 → ys.getD m 0 < n := by
  intro m hm
  rcases Nat.lt_or_ge m i with h' | h'
  · exact h m h'
  · obtain rfl : m = i := by omega
    exact hi
theorem ints_one (xs : List Int) : ∀ u ∈ ints xs, u.oneCell' = true := by
  intro u hu
  obtain ⟨x, _, rfl⟩ := List.mem_map.1 hu
  rfl
theorem mid_empty (w : World) (B : Nat) (hB : B ≤ w.heap.size) : Mid (w.alloc (.cells #[] 3)) B 3 1 (.slice (some ⟨w.heap.size, 0, none⟩) 0 0) 0 [] :=
  ⟨by simp, .inr ⟨w.heap.size, 0, 0, #[], rfl, hB, heap_alloc_new w _, Nat.le_refl _, Nat.zero_le _, by simp, rfl⟩⟩
theorem Mid.alloc {w : World} {B n : Nat} {v : Value} {xs : List Value} (h : Mid w B 3 1 v n xs) (ob : Obj) : Mid (w.alloc ob) B 3 1 v n xs := h.same fun g hg => Below.heap_alloc w ob g (h.lt g hg).2
theorem Ran.cell {w w' : World} {v v' : Value} (h : Ran v v' w w') (a : Addr) (hl : a.block < w.heap.size) (hn : some a.block ≠ v.ownBlock) {u : Value} (hc : w.cell? a = some u) : w'.cell? a = some u := (h.grown.cell_far a hl hn).trans hc
/-- Q's list at A is the same cells yet, Q is as it was. -/
structure Hd (w0 : World) (Q o L c : Nat) (A : Option Addr) (ys : List Int) (w : World) : Prop where
  c1 : w.cell? ⟨Q, o + 1, none⟩ = some (.slice A L c)
  f1 : w.frozen? ⟨Q, o + 1, none⟩ = false
  rd : Reads w w0.heap.size 1 A L (ints ys)
  bel : Below w0.heap.size w0 w
  lq : Q < w0.heap.size
theorem Hd.alloc {w0 w : World} {Q o L c : Nat} {A : Option Addr} {ys : List Int} (h : Hd w0 Q o L c A ys w) (ob : Obj) : Hd w0 Q o L c A ys (w.alloc ob) := by
  have hb := h.bel.alloc h.bel.size ob
  have hs := h.bel.size
  have hl := h.lq
  have hb1 : Below w.heap.size w (w.alloc ob) := (Below.refl _ _).alloc (Nat.le_refl _) ob
  exact ⟨(hb1.cell (p := ⟨Q, o + 1, none⟩) (by show Q < _; omega)).trans h.c1, (hb1.frozen (p := ⟨Q, o + 1, none⟩) (by show Q < _; omega)).trans h.f1, h.rd.alloc hs ob, hb, hl⟩
theorem Hd.ran {w0 w w' : World} {Q o L c n : Nat} {A : Option Addr} {ys : List Int} {v v' : Value} {xs : List Value} (h : Hd w0 Q o L c A ys w) (hm : Mid w w0.heap.size 3 1 v n xs) (hr : Ran v v' w w') : Hd w0 Q o L c A ys w' := by
  have hs := h.bel.size
  have hl := h.lq
  have hq : some Q ≠ v.ownBlock := fun e => by have := (hm.lt Q e.symm).1; omega
  exact ⟨(hr.grown.cell_far _ (by show Q < _; omega) hq).trans h.c1, (hr.grown.frozen_far _ (by show Q < _; omega) hq).trans h.f1, h.rd.grown hr.grown hs fun g hg => (hm.lt g hg).1, h.bel.grown hr.grown hs fun g hg => (hm.lt g hg).1, hl⟩
theorem Reads.head' : True := trivial
theorem info3' : (Try.prog.info? 3).map (fun i => (i.zero, i.size, i.bytes)) = some (some (.int .i64 0), 1, 8) := by kernel_rfl
/-- Behind a Put: Q's list reads zs. -/
def Put1 (w0 : World) (Q o : Nat) (zs : List Int) (w' : World) : Prop := ∃ w v, Below w0.heap.size w0 w ∧ Mid w w0.heap.size 3 1 v zs.length (ints zs) ∧ w' = w.setCell ⟨Q, o + 1, none⟩ v
theorem getD_mem' (xs : List Int) (i : Nat) (h : i < xs.length) : xs.getD i 0 ∈ xs := by
  rw [List.getD_eq_getElem?_getD, List.getElem?_eq_getElem h]; exact List.getElem_mem _
/-- Behind a Put of n: Q's list is the list with n in its place. -/
def PutOk (Q o : Nat) (w : World) (n : Int) (ys : List Int) (w' : World) : Prop :=
  ∃ i w5 A5 c5, i ≤ ys.length ∧ (∀ m, m < i → ys.getD m 0 < n) ∧ (i < ys.length → n < ys.getD i 0) ∧ Below w.heap.size w w5 ∧ w5.cell? ⟨Q, o + 1, none⟩ = w.cell? ⟨Q, o + 1, none⟩ ∧ Mid w5 w.heap.size 3 1 (.slice A5 (ys.length + 1) c5) (ys.length + 1) (ints (insF ys n i)) ∧
    w' = w5.setCell ⟨Q, o + 1, none⟩ (.slice A5 (ys.length + 1) c5)
theorem fin_ok {Q o L c i N1 N2 : Nat} {w w5 : World} {n : Int} {ys : List Int} {A A5 : Option Addr} {c5 : Nat} (hd : Hd w Q o L c A ys w5) (hc : w.cell? ⟨Q, o + 1, none⟩ = some (.slice A L c)) (hL : ys.length = L) (hi : i ≤ L) (hb : ∀ m, m < i → ys.getD m 0 < n) (ha : i < L → n < ys.getD i 0)
    (hm : Mid w5 w.heap.size 3 1 (.slice A5 N1 c5) N1 ([] ++ ints (ys.take i) ++ [.int .i64 n] ++ ints (ys.drop i))) (h1 : N1 = ys.length + 1) (h2 : N2 = ys.length + 1) : PutOk Q o w n ys (w5.setCell ⟨Q, o + 1, none⟩ (.slice A5 N2 c5)) := by
  have e2 : [] ++ ints (ys.take i) ++ [.int .i64 n] ++ ints (ys.drop i) = ints (insF ys n i) := by unfold insF; rw [ints_append, ints_append, List.nil_append]; rfl
  subst h1
  subst h2
  rw [e2] at hm
  exact ⟨i, w5, A5, c5, by omega, hb, by rw [hL]; exact ha, hd.bel, hd.c1.trans hc.symm, hm, rfl⟩
set_option maxRecDepth 100000 in
set_option maxHeartbeats 1600000 in
theorem rput_in (Q o : Nat) (most n : Int) (A : Option Addr) (c : Nat) (ys : List Int) (w : World) (h : RefP Q o 0 most A c ys w) (hlen : ys.length < 900000) (h0 : 0 ≤ n) (h9 : n < most) (hne : n ∉ ys) :
    Calls Try.prog 57 #[.pointer (some ⟨Q, o, none⟩), .int .i64 n] w fun e w' => e = .returned (.bool true) ∧ PutOk Q o w n ys w' := by
  obtain ⟨i0, hi0, hz0, hz1, hz2⟩ := info_parts info3'
  have hc0 := h.c0
  have h1 := h.c1
  have hf := h.f1
  have hcap := h.cap
  have hrd := h.rd
  have hn1 : ¬ n < 0 := by omega
  have hn2 : ¬ (n ≥ most) := by omega
  generalize hL : ys.length = L at *
  have HL := Lib.hid hL
  have lQ := World.block_lt_of_cell? _ _ hc0
  have HHd : Hid (Hd w Q o L c A ys w) := Lib.hid ⟨h1, hf, hrd, Below.refl _ _, lQ⟩
  have HNE : Hid (∀ y, y ∈ ys → y ≠ n) := Lib.hid (fun y hy e => hne (e ▸ hy))
  clear hL h hne
  go_enter Try.func57, Try.ntmps57
  go_wp2
  go_loop [5] (fun j => ∃ i : Nat, i ≤ L ∧ j = .int .i64 i ∧ Hid (∀ m, m < i → ys.getD m 0 < n)) (fun j => L - (intOf j).toNat)
  case atStart => exact ⟨0, by omega, rfl, Lib.hid (by omega)⟩
  case round =>
    obtain ⟨i, hi, rfl, HI⟩ := hrel
    by_cases hlt : i < L
    · obtain ⟨ad, u, rfl, hb, hu, hc⟩ := hrd.at_ hlt
      rw [ints_at ys i (by rw [HL.out]; exact hlt)] at hu
      injection hu with hu
      rw [← hu] at hc
      clear hu
      generalize hy : ys.getD i 0 = y at *
      have HY := Lib.hid hy
      clear hy
      by_cases hyn : y < n
      · go_wp2
        go_round
        case rel => exact ⟨i + 1, by omega, by go_num, Lib.hid (below_next HI.out (by rw [HY.out]; exact hyn))⟩
        case measure => simp only [intOf]; omega
      · by_cases hye : y = n
        · exact absurd hye (HNE.out y (by rw [← HY.out]; exact getD_mem' ys i (by rw [HL.out]; exact hlt)))
        · have hye1 : (y == n) = false := by simp [hye]
          clear hye
          go_wp2
          have hci : ¬ (c = i) := by omega
          have g1 : (i : Int) ≤ L := by omega
          have g2 : (i : Int) ≤ c := by omega
          have g3 : (0 : Int) ≤ i := by omega
          have g4 : (L : Int) ≤ c := by omega
          clear hc hb hrd
          have HA : Hid (∀ w', Hd w Q o L c (some ad) ys w' → Reads w' w.heap.size 1 (some ad) i (ints (ys.take i))) := Lib.hid (fun w' hd => by have := hd.rd.head (k := i) hi; unfold ints at this ⊢; rwa [Nat.mul_one, ← List.map_take] at this)
          have HB : Hid (∀ w', Hd w Q o L c (some ad) ys w' → Reads w' w.heap.size 1 (some (ad.add i)) (L - i) (ints (ys.drop i))) := Lib.hid (fun w' hd => by have := hd.rd.cut (k := i) (cap := c) hi hcap; rw [if_neg hci, Nat.mul_one] at this; unfold ints at this ⊢; rwa [← List.map_drop] at this)
          have HNy : Hid (n < ys.getD i 0) := Lib.hid (by have := HNE.out y (by rw [← HY.out]; exact getD_mem' ys i (by rw [HL.out]; exact hlt)); rw [HY.out]; omega)
          refine wp_region_T (fun w' => w'.cell? ⟨Q, o + 1, none⟩ = some (.slice (some ad) L c)) 21 (by kernel_rfl) ?_
          have hS : w.drew.cell? ⟨Q, o + 1, none⟩ = some (.slice (some ad) L c) := h1
          refine wpAnyT_take (i := 0) (oi := _) (v := ?_) (by rfl) (by kernel_rfl) (by intro _ _ _ h; exact h) hS (Or.inl ⟨by rfl, ?_⟩) ?_
          rotate_left 1
          · intro w' hS'
            go_simp
            all_goals with_reducible rfl
          simp only [Act.put, List.setIfInBounds_toArray, List.set_cons_zero, List.set_cons_succ]
          refine wpAnyT_take (i := 2) (oi := _) (v := ?_) (by rfl) (by kernel_rfl) (by intro _ _ _ h; exact h) hS (Or.inl ⟨by rfl, ?_⟩) ?_
          rotate_left 1
          · intro w' hS'
            go_simp
            all_goals with_reducible rfl
          simp only [Act.put, List.setIfInBounds_toArray, List.set_cons_zero, List.set_cons_succ]
          refine wpAnyT_take (i := 3) (oi := _) (v := ?_) (by rfl) (by kernel_rfl) (by intro _ _ _ h; exact h) hS (Or.inl ⟨by rfl, ?_⟩) ?_
          rotate_left 1
          · intro w' hS'
            go_simp
            all_goals with_reducible rfl
          simp only [Act.put, List.setIfInBounds_toArray, List.set_cons_zero, List.set_cons_succ]
          refine wpAnyT_take (i := 4) (oi := _) (v := ?_) (by rfl) (by kernel_rfl) (by intro _ _ _ h; exact h) hS (Or.inl ⟨by rfl, ?_⟩) ?_
          rotate_left 1
          · intro w' hS'
            go_simp
            all_goals with_reducible rfl
          simp only [Act.put, List.setIfInBounds_toArray, List.set_cons_zero, List.set_cons_succ]
          refine wpAnyT_take (i := 5) (oi := _) (v := ?_) (by rfl) (by kernel_rfl) (by intro _ _ _ h; exact h) hS (Or.inl ⟨by rfl, ?_⟩) ?_
          rotate_left 1
          · intro w' hS'
            go_simp
            all_goals with_reducible rfl
          simp only [Act.put, List.setIfInBounds_toArray, List.set_cons_zero, List.set_cons_succ]
          refine wpAnyT_take (i := 6) (oi := _) (v := ?_) (by rfl) (by kernel_rfl) (by intro _ _ _ h; exact h) hS (Or.inl ⟨by rfl, ?_⟩) ?_
          rotate_left 1
          · intro w' hS'
            go_simp
            all_goals with_reducible rfl
          simp only [Act.put, List.setIfInBounds_toArray, List.set_cons_zero, List.set_cons_succ]
          refine wpAnyT_take (i := 7) (oi := _) (v := ?_) (by rfl) (by kernel_rfl) (by intro _ _ _ h; exact h) hS (Or.inl ⟨by rfl, ?_⟩) ?_
          rotate_left 1
          · intro w' hS'
            go_simp
            all_goals with_reducible rfl
          simp only [Act.put, List.setIfInBounds_toArray, List.set_cons_zero, List.set_cons_succ]
          refine wpAnyT_take (i := 9) (oi := _) (v := ?_) (by rfl) (by kernel_rfl) (by intro _ _ _ h; exact h) hS (Or.inl ⟨by rfl, ?_⟩) ?_
          rotate_left 1
          · intro w' hS'
            go_simp
            all_goals with_reducible rfl
          simp only [Act.put, List.setIfInBounds_toArray, List.set_cons_zero, List.set_cons_succ]
          refine wpAnyT_take (i := 12) (oi := _) (v := ?_) (by rfl) (by kernel_rfl) (by intro _ _ _ h; exact h) hS (Or.inl ⟨by rfl, ?_⟩) ?_
          rotate_left 1
          · intro w' hS'
            go_simp
            all_goals with_reducible rfl
          simp only [Act.put, List.setIfInBounds_toArray, List.set_cons_zero, List.set_cons_succ]
          refine wpAnyT_take (i := 13) (oi := _) (v := ?_) (by rfl) (by kernel_rfl) (by intro _ _ _ h; exact h) hS (Or.inl ⟨by rfl, ?_⟩) ?_
          rotate_left 1
          · intro w' hS'
            go_simp
            all_goals with_reducible rfl
          simp only [Act.put, List.setIfInBounds_toArray, List.set_cons_zero, List.set_cons_succ]
          refine wpAnyT_take (i := 14) (oi := _) (v := ?_) (by rfl) (by kernel_rfl) (by intro _ _ _ h; exact h) hS (Or.inl ⟨by rfl, ?_⟩) ?_
          rotate_left 1
          · intro w' hS'
            go_simp
            all_goals with_reducible rfl
          simp only [Act.put, List.setIfInBounds_toArray, List.set_cons_zero, List.set_cons_succ]
          refine wpAnyT_take (i := 15) (oi := _) (v := ?_) (by rfl) (by kernel_rfl) (by intro _ _ _ h; exact h) hS (Or.inl ⟨by rfl, ?_⟩) ?_
          rotate_left 1
          · intro w' hS'
            go_simp
            all_goals with_reducible rfl
          simp only [Act.put, List.setIfInBounds_toArray, List.set_cons_zero, List.set_cons_succ]
          refine wpAnyT_take (i := 16) (oi := _) (v := ?_) (by rfl) (by kernel_rfl) (by intro _ _ _ h; exact h) hS (Or.inl ⟨by rfl, ?_⟩) ?_
          rotate_left 1
          · intro w' hS'
            go_simp
            all_goals with_reducible rfl
          simp only [Act.put, List.setIfInBounds_toArray, List.set_cons_zero, List.set_cons_succ]
          refine wpAnyT_take (i := 17) (oi := _) (v := ?_) (by rfl) (by kernel_rfl) (by intro _ _ _ h; exact h) hS (Or.inl ⟨by rfl, ?_⟩) ?_
          rotate_left 1
          · intro w' hS'
            go_simp
            all_goals with_reducible rfl
          simp only [Act.put, List.setIfInBounds_toArray, List.set_cons_zero, List.set_cons_succ]
          refine wpAnyT_all (rs := [1, 10]) (by kernel_rfl) (by simp) ?_
          intro ix hix
          simp only [List.mem_cons, List.not_mem_nil, or_false] at hix
          have hd0 : Hd w Q o L c (some ad) ys w.drew := ⟨HHd.out.c1, HHd.out.f1, HHd.out.rd, HHd.out.bel.drew, HHd.out.lq⟩
          rcases hix with rfl | rfl
          · refine wpT_op (o := _) (by rfl) (fun K hK => ?_)
            go_simp
            have hd1 := hd0.alloc (.cells #[] 3)
            have m1 : Mid (w.drew.alloc (.cells #[] 3)) w.heap.size 3 1 (.slice (some ⟨w.heap.size, 0, none⟩) 0 0) 0 [] := mid_empty w.drew w.heap.size (Nat.le_refl _)
            refine hK _ _ (fun _ => hd1.c1) ?_
            clear hK K
            try simp only [Act.put, List.setIfInBounds_toArray, List.set_cons_zero, List.set_cons_succ]
            refine wpAnyT_all (rs := [8, 10]) (by kernel_rfl) (by simp) ?_
            intro ix hix
            simp only [List.mem_cons, List.not_mem_nil, or_false] at hix
            rcases hix with rfl | rfl
            · refine wpT_op (o := _) (by rfl) (fun K hK => ?_)
              refine step_append_src (by rfl) _ _ _ (by rfl) w.heap.size 3 i0 _ 1 8 Try.underlying45 hi0 hz0 hz1 hz2 rfl (by omega) (.slice (some ⟨w.heap.size, 0, none⟩) 0 0) 0 [] (by rfl) m1 w.heap.size _ _ _ (ints (ys.take i)) (by rfl) (HA.out _ hd1) (ints_one _) (by unfold maxLen; omega) (by omega) hd1.bel.size ?_
              intro v2 w2 hm2 hr2
              have hd2 := hd1.ran m1 hr2
              refine hK _ _ (fun _ => hd2.c1) ?_
              clear hK K
              try simp only [Act.put, List.setIfInBounds_toArray, List.set_cons_zero, List.set_cons_succ]
              refine wpAnyT_all (rs := [10]) (by kernel_rfl) (by simp) ?_
              intro ix hix
              simp only [List.mem_cons, List.not_mem_nil, or_false] at hix
              subst hix
              refine wpT_op (o := _) (by rfl) (fun K hK => ?_)
              go_simp
              have hd3 := hd2.alloc (.cells #[.int .i64 n] 3)
              have m3 := Mid.alloc hm2 (.cells #[.int .i64 n] 3)
              refine hK _ _ (fun _ => hd3.c1) ?_
              clear hK K
              try simp only [Act.put, List.setIfInBounds_toArray, List.set_cons_zero, List.set_cons_succ]
              refine wpAnyT_all (rs := [11]) (by kernel_rfl) (by simp) ?_
              intro ix hix
              simp only [List.mem_cons, List.not_mem_nil, or_false] at hix
              subst hix
              refine wpT_op (o := _) (by rfl) (fun K hK => ?_)
              refine step_append_mid (by rfl) _ _ _ (by rfl) w.heap.size 3 i0 _ 1 8 Try.underlying45 hi0 hz0 hz1 hz2 rfl (by omega) v2 (0 + i) ([] ++ ints (ys.take i)) (by rfl) m3 ⟨w2.heap.size, 0, none⟩ 1 1 [.int .i64 n] (by rfl) (by rfl) (World.news_of_block (cs := #[.int .i64 n]) (t := 3) (fr := (0, 0)) (heap_alloc_new w2 _)) (by simp [Value.oneCell']) (by unfold maxLen; omega) (by omega) hd3.bel.size ?_
              intro v4 w4 hm4 hr4
              have hd4 := hd3.ran m3 hr4
              refine hK _ _ (fun _ => hd4.c1) ?_
              clear hK K
              try simp only [Act.put, List.setIfInBounds_toArray, List.set_cons_zero, List.set_cons_succ]
              refine wpAnyT_all (rs := [18]) (by kernel_rfl) (by simp) ?_
              intro ix hix
              simp only [List.mem_cons, List.not_mem_nil, or_false] at hix
              subst hix
              refine wpT_op (o := _) (by rfl) (fun K hK => ?_)
              refine step_append_src (by rfl) _ _ _ (by rfl) w.heap.size 3 i0 _ 1 8 Try.underlying45 hi0 hz0 hz1 hz2 rfl (by omega) v4 (0 + i + 1) ([] ++ ints (ys.take i) ++ [.int .i64 n]) (by rfl) hm4 w.heap.size _ _ _ (ints (ys.drop i)) (by rfl) (HB.out _ hd4) (ints_one _) (by unfold maxLen; omega) (by omega) hd4.bel.size ?_
              intro v5 w5 hm5 hr5
              obtain ⟨A5, c5, rfl⟩ := hm5.form
              have hd5 := hd4.ran hm4 hr5
              refine hK _ _ (fun _ => hd5.c1) ?_
              clear hK K
              try simp only [Act.put, List.setIfInBounds_toArray, List.set_cons_zero, List.set_cons_succ]
              have hS := hd5.c1
              have f5 := hd5.f1
              refine wpAnyT_take (i := 19) (oi := _) (v := ?_) (by rfl) (by kernel_rfl) (by intro _ _ _ h; exact h) hS (Or.inl ⟨by rfl, ?_⟩) ?_
              rotate_left 1
              · intro w' hS'
                go_simp
                all_goals with_reducible rfl
              simp only [Act.put, List.setIfInBounds_toArray, List.set_cons_zero, List.set_cons_succ]
              refine wpAnyT_take (i := 20) (oi := _) (v := ?_) (by rfl) (by kernel_rfl) (by intro _ _ _ h; exact h) hS (Or.inl ⟨by rfl, ?_⟩) ?_
              rotate_left 1
              · intro w' hS'
                go_simp
                all_goals with_reducible rfl
              simp only [Act.put, List.setIfInBounds_toArray, List.set_cons_zero, List.set_cons_succ]
              refine wpAnyT_all (rs := [21]) (by kernel_rfl) (by simp) ?_
              intro ix hix
              simp only [List.mem_cons, List.not_mem_nil, or_false] at hix
              subst hix
              refine wpT_op (o := _) (by rfl) (fun K hK => ?_)
              try go_simp
              refine hK _ _ (fun h => absurd h (by omega)) ?_
              clear hK K
              refine wpAnyT_done (by kernel_rfl) ?_ _
              have HM5 := Lib.hid hm5
              clear hm5
              go_wp2
              go_ret
              exact ⟨rfl, fin_ok hd5 HHd.out.c1 HL.out hi HI.out (fun _ => HNy.out) HM5.out (by have := HL.out; omega) (by have := HL.out; omega)⟩
            · refine wpT_op (o := _) (by rfl) (fun K hK => ?_)
              go_simp
              have hd2 := hd1.alloc (.cells #[.int .i64 n] 3)
              have m2 := Mid.alloc m1 (.cells #[.int .i64 n] 3)
              have hN2 : ((w.drew.alloc (.cells #[] 3)).alloc (.cells #[.int .i64 n] 3)).cell? ⟨w.heap.size + 1, 0, none⟩ = some (.int .i64 n) := World.cell?_alloc_at _ _ _ _ (by simp)
              refine hK _ _ (fun _ => hd2.c1) ?_
              clear hK K
              try simp only [Act.put, List.setIfInBounds_toArray, List.set_cons_zero, List.set_cons_succ]
              refine wpAnyT_all (rs := [8]) (by kernel_rfl) (by simp) ?_
              intro ix hix
              simp only [List.mem_cons, List.not_mem_nil, or_false] at hix
              subst hix
              refine wpT_op (o := _) (by rfl) (fun K hK => ?_)
              refine step_append_src (by rfl) _ _ _ (by rfl) w.heap.size 3 i0 _ 1 8 Try.underlying45 hi0 hz0 hz1 hz2 rfl (by omega) (.slice (some ⟨w.heap.size, 0, none⟩) 0 0) 0 [] (by rfl) m2 w.heap.size _ _ _ (ints (ys.take i)) (by rfl) (HA.out _ hd2) (ints_one _) (by unfold maxLen; omega) (by omega) hd2.bel.size ?_
              intro v3 w3 hm3 hr3
              have hd3 := hd2.ran m2 hr3
              have hN3 : w3.cell? ⟨w.heap.size + 1, 0, none⟩ = some (.int .i64 n) := hr3.cell _ (by simp <;> omega) (by simp [Value.ownBlock]) hN2
              refine hK _ _ (fun _ => hd3.c1) ?_
              clear hK K
              try simp only [Act.put, List.setIfInBounds_toArray, List.set_cons_zero, List.set_cons_succ]
              refine wpAnyT_all (rs := [11]) (by kernel_rfl) (by simp) ?_
              intro ix hix
              simp only [List.mem_cons, List.not_mem_nil, or_false] at hix
              subst hix
              refine wpT_op (o := _) (by rfl) (fun K hK => ?_)
              refine step_append_mid (by rfl) _ _ _ (by rfl) w.heap.size 3 i0 _ 1 8 Try.underlying45 hi0 hz0 hz1 hz2 rfl (by omega) v3 (0 + i) ([] ++ ints (ys.take i)) (by rfl) hm3 ⟨w.heap.size + 1, 0, none⟩ 1 1 [.int .i64 n] (by rfl) (by rfl) (fun jx ux hj => by rcases jx with _ | jx; (simp only [List.getElem?_cons_zero, Option.some.injEq] at hj; rw [← hj]; exact hN3); simp at hj) (by simp [Value.oneCell']) (by unfold maxLen; omega) (by omega) hd3.bel.size ?_
              intro v4 w4 hm4 hr4
              have hd4 := hd3.ran hm3 hr4
              refine hK _ _ (fun _ => hd4.c1) ?_
              clear hK K
              try simp only [Act.put, List.setIfInBounds_toArray, List.set_cons_zero, List.set_cons_succ]
              refine wpAnyT_all (rs := [18]) (by kernel_rfl) (by simp) ?_
              intro ix hix
              simp only [List.mem_cons, List.not_mem_nil, or_false] at hix
              subst hix
              refine wpT_op (o := _) (by rfl) (fun K hK => ?_)
              refine step_append_src (by rfl) _ _ _ (by rfl) w.heap.size 3 i0 _ 1 8 Try.underlying45 hi0 hz0 hz1 hz2 rfl (by omega) v4 (0 + i + 1) ([] ++ ints (ys.take i) ++ [.int .i64 n]) (by rfl) hm4 w.heap.size _ _ _ (ints (ys.drop i)) (by rfl) (HB.out _ hd4) (ints_one _) (by unfold maxLen; omega) (by omega) hd4.bel.size ?_
              intro v5 w5 hm5 hr5
              obtain ⟨A5, c5, rfl⟩ := hm5.form
              have hd5 := hd4.ran hm4 hr5
              refine hK _ _ (fun _ => hd5.c1) ?_
              clear hK K
              try simp only [Act.put, List.setIfInBounds_toArray, List.set_cons_zero, List.set_cons_succ]
              have hS := hd5.c1
              have f5 := hd5.f1
              refine wpAnyT_take (i := 19) (oi := _) (v := ?_) (by rfl) (by kernel_rfl) (by intro _ _ _ h; exact h) hS (Or.inl ⟨by rfl, ?_⟩) ?_
              rotate_left 1
              · intro w' hS'
                go_simp
                all_goals with_reducible rfl
              simp only [Act.put, List.setIfInBounds_toArray, List.set_cons_zero, List.set_cons_succ]
              refine wpAnyT_take (i := 20) (oi := _) (v := ?_) (by rfl) (by kernel_rfl) (by intro _ _ _ h; exact h) hS (Or.inl ⟨by rfl, ?_⟩) ?_
              rotate_left 1
              · intro w' hS'
                go_simp
                all_goals with_reducible rfl
              simp only [Act.put, List.setIfInBounds_toArray, List.set_cons_zero, List.set_cons_succ]
              refine wpAnyT_all (rs := [21]) (by kernel_rfl) (by simp) ?_
              intro ix hix
              simp only [List.mem_cons, List.not_mem_nil, or_false] at hix
              subst hix
              refine wpT_op (o := _) (by rfl) (fun K hK => ?_)
              try go_simp
              refine hK _ _ (fun h => absurd h (by omega)) ?_
              clear hK K
              refine wpAnyT_done (by kernel_rfl) ?_ _
              have HM5 := Lib.hid hm5
              clear hm5
              go_wp2
              go_ret
              exact ⟨rfl, fin_ok hd5 HHd.out.c1 HL.out hi HI.out (fun _ => HNy.out) HM5.out (by have := HL.out; omega) (by have := HL.out; omega)⟩
          · refine wpT_op (o := _) (by rfl) (fun K hK => ?_)
            go_simp
            have hd1 := hd0.alloc (.cells #[.int .i64 n] 3)
            have hN1 : (w.drew.alloc (.cells #[.int .i64 n] 3)).cell? ⟨w.heap.size, 0, none⟩ = some (.int .i64 n) := World.cell?_alloc_at _ _ _ _ rfl
            refine hK _ _ (fun _ => hd1.c1) ?_
            clear hK K
            try simp only [Act.put, List.setIfInBounds_toArray, List.set_cons_zero, List.set_cons_succ]
            refine wpAnyT_all (rs := [1]) (by kernel_rfl) (by simp) ?_
            intro ix hix
            simp only [List.mem_cons, List.not_mem_nil, or_false] at hix
            subst hix
            refine wpT_op (o := _) (by rfl) (fun K hK => ?_)
            go_simp
            have hd2 := hd1.alloc (.cells #[] 3)
            have m2 : Mid ((w.drew.alloc (.cells #[.int .i64 n] 3)).alloc (.cells #[] 3)) w.heap.size 3 1 (.slice (some ⟨w.heap.size + 1, 0, none⟩) 0 0) 0 [] := by have := mid_empty (w.drew.alloc (.cells #[.int .i64 n] 3)) w.heap.size (by simp); simpa using this
            have hN2 : ((w.drew.alloc (.cells #[.int .i64 n] 3)).alloc (.cells #[] 3)).cell? ⟨w.heap.size, 0, none⟩ = some (.int .i64 n) := (World.cell?_alloc_lt _ _ ⟨w.heap.size, 0, none⟩ (by simp)).trans hN1
            refine hK _ _ (fun _ => hd2.c1) ?_
            clear hK K
            try simp only [Act.put, List.setIfInBounds_toArray, List.set_cons_zero, List.set_cons_succ]
            refine wpAnyT_all (rs := [8]) (by kernel_rfl) (by simp) ?_
            intro ix hix
            simp only [List.mem_cons, List.not_mem_nil, or_false] at hix
            subst hix
            refine wpT_op (o := _) (by rfl) (fun K hK => ?_)
            refine step_append_src (by rfl) _ _ _ (by rfl) w.heap.size 3 i0 _ 1 8 Try.underlying45 hi0 hz0 hz1 hz2 rfl (by omega) (.slice (some ⟨w.heap.size + 1, 0, none⟩) 0 0) 0 [] (by rfl) m2 w.heap.size _ _ _ (ints (ys.take i)) (by rfl) (HA.out _ hd2) (ints_one _) (by unfold maxLen; omega) (by omega) hd2.bel.size ?_
            intro v3 w3 hm3 hr3
            have hd3 := hd2.ran m2 hr3
            have hN3 : w3.cell? ⟨w.heap.size, 0, none⟩ = some (.int .i64 n) := hr3.cell _ (by simp <;> omega) (by simp [Value.ownBlock]) hN2
            refine hK _ _ (fun _ => hd3.c1) ?_
            clear hK K
            try simp only [Act.put, List.setIfInBounds_toArray, List.set_cons_zero, List.set_cons_succ]
            refine wpAnyT_all (rs := [11]) (by kernel_rfl) (by simp) ?_
            intro ix hix
            simp only [List.mem_cons, List.not_mem_nil, or_false] at hix
            subst hix
            refine wpT_op (o := _) (by rfl) (fun K hK => ?_)
            refine step_append_mid (by rfl) _ _ _ (by rfl) w.heap.size 3 i0 _ 1 8 Try.underlying45 hi0 hz0 hz1 hz2 rfl (by omega) v3 (0 + i) ([] ++ ints (ys.take i)) (by rfl) hm3 ⟨w.heap.size, 0, none⟩ 1 1 [.int .i64 n] (by rfl) (by rfl) (fun jx ux hj => by rcases jx with _ | jx; (simp only [List.getElem?_cons_zero, Option.some.injEq] at hj; rw [← hj]; exact hN3); simp at hj) (by simp [Value.oneCell']) (by unfold maxLen; omega) (by omega) hd3.bel.size ?_
            intro v4 w4 hm4 hr4
            have hd4 := hd3.ran hm3 hr4
            refine hK _ _ (fun _ => hd4.c1) ?_
            clear hK K
            try simp only [Act.put, List.setIfInBounds_toArray, List.set_cons_zero, List.set_cons_succ]
            refine wpAnyT_all (rs := [18]) (by kernel_rfl) (by simp) ?_
            intro ix hix
            simp only [List.mem_cons, List.not_mem_nil, or_false] at hix
            subst hix
            refine wpT_op (o := _) (by rfl) (fun K hK => ?_)
            refine step_append_src (by rfl) _ _ _ (by rfl) w.heap.size 3 i0 _ 1 8 Try.underlying45 hi0 hz0 hz1 hz2 rfl (by omega) v4 (0 + i + 1) ([] ++ ints (ys.take i) ++ [.int .i64 n]) (by rfl) hm4 w.heap.size _ _ _ (ints (ys.drop i)) (by rfl) (HB.out _ hd4) (ints_one _) (by unfold maxLen; omega) (by omega) hd4.bel.size ?_
            intro v5 w5 hm5 hr5
            obtain ⟨A5, c5, rfl⟩ := hm5.form
            have hd5 := hd4.ran hm4 hr5
            refine hK _ _ (fun _ => hd5.c1) ?_
            clear hK K
            try simp only [Act.put, List.setIfInBounds_toArray, List.set_cons_zero, List.set_cons_succ]
            have hS := hd5.c1
            have f5 := hd5.f1
            refine wpAnyT_take (i := 19) (oi := _) (v := ?_) (by rfl) (by kernel_rfl) (by intro _ _ _ h; exact h) hS (Or.inl ⟨by rfl, ?_⟩) ?_
            rotate_left 1
            · intro w' hS'
              go_simp
              all_goals with_reducible rfl
            simp only [Act.put, List.setIfInBounds_toArray, List.set_cons_zero, List.set_cons_succ]
            refine wpAnyT_take (i := 20) (oi := _) (v := ?_) (by rfl) (by kernel_rfl) (by intro _ _ _ h; exact h) hS (Or.inl ⟨by rfl, ?_⟩) ?_
            rotate_left 1
            · intro w' hS'
              go_simp
              all_goals with_reducible rfl
            simp only [Act.put, List.setIfInBounds_toArray, List.set_cons_zero, List.set_cons_succ]
            refine wpAnyT_all (rs := [21]) (by kernel_rfl) (by simp) ?_
            intro ix hix
            simp only [List.mem_cons, List.not_mem_nil, or_false] at hix
            subst hix
            refine wpT_op (o := _) (by rfl) (fun K hK => ?_)
            try go_simp
            refine hK _ _ (fun h => absurd h (by omega)) ?_
            clear hK K
            refine wpAnyT_done (by kernel_rfl) ?_ _
            have HM5 := Lib.hid hm5
            clear hm5
            go_wp2
            go_ret
            exact ⟨rfl, fin_ok hd5 HHd.out.c1 HL.out hi HI.out (fun _ => HNy.out) HM5.out (by have := HL.out; omega) (by have := HL.out; omega)⟩
    · obtain rfl : i = L := by omega
      generalize hiL : i = L at *
      have HiL := Lib.hid hiL
      clear hiL
      have g1 : (0 : Int) ≤ L := by omega
      have g4 : (L : Int) ≤ c := by omega
      by_cases hci : c = L
      · have HCI := Lib.hid hci
        clear hci
        go_wp2
        clear hrd
        have HA : Hid (∀ w', Hd w Q o L c A ys w' → Reads w' w.heap.size 1 A L (ints (ys.take L))) := Lib.hid (fun w' hd => by have := hd.rd.head (k := L) hi; unfold ints at this ⊢; rwa [Nat.mul_one, ← List.map_take] at this)
        have HB : Hid (∀ (w' : World) (Z : Option Addr), Reads w' w.heap.size 1 Z 0 (ints (ys.drop L))) := Lib.hid (fun w' Z => ⟨by simp [ints, HL.out], fun h => absurd h (by omega)⟩)
        refine wp_region_T (fun w' => w'.cell? ⟨Q, o + 1, none⟩ = some (.slice A L c)) 21 (by kernel_rfl) ?_
        have hS : w.drew.cell? ⟨Q, o + 1, none⟩ = some (.slice A L c) := h1
        refine wpAnyT_take (i := 0) (oi := _) (v := ?_) (by rfl) (by kernel_rfl) (by intro _ _ _ h; exact h) hS (Or.inl ⟨by rfl, ?_⟩) ?_
        rotate_left 1
        · intro w' hS'
          go_simp
          all_goals with_reducible rfl
        simp only [Act.put, List.setIfInBounds_toArray, List.set_cons_zero, List.set_cons_succ]
        refine wpAnyT_take (i := 2) (oi := _) (v := ?_) (by rfl) (by kernel_rfl) (by intro _ _ _ h; exact h) hS (Or.inl ⟨by rfl, ?_⟩) ?_
        rotate_left 1
        · intro w' hS'
          go_simp
          all_goals with_reducible rfl
        simp only [Act.put, List.setIfInBounds_toArray, List.set_cons_zero, List.set_cons_succ]
        refine wpAnyT_take (i := 3) (oi := _) (v := ?_) (by rfl) (by kernel_rfl) (by intro _ _ _ h; exact h) hS (Or.inl ⟨by rfl, ?_⟩) ?_
        rotate_left 1
        · intro w' hS'
          go_simp
          all_goals with_reducible rfl
        simp only [Act.put, List.setIfInBounds_toArray, List.set_cons_zero, List.set_cons_succ]
        refine wpAnyT_take (i := 4) (oi := _) (v := ?_) (by rfl) (by kernel_rfl) (by intro _ _ _ h; exact h) hS (Or.inl ⟨by rfl, ?_⟩) ?_
        rotate_left 1
        · intro w' hS'
          go_simp
          all_goals with_reducible rfl
        simp only [Act.put, List.setIfInBounds_toArray, List.set_cons_zero, List.set_cons_succ]
        refine wpAnyT_take (i := 5) (oi := _) (v := ?_) (by rfl) (by kernel_rfl) (by intro _ _ _ h; exact h) hS (Or.inl ⟨by rfl, ?_⟩) ?_
        rotate_left 1
        · intro w' hS'
          go_simp
          all_goals with_reducible rfl
        simp only [Act.put, List.setIfInBounds_toArray, List.set_cons_zero, List.set_cons_succ]
        refine wpAnyT_take (i := 6) (oi := _) (v := ?_) (by rfl) (by kernel_rfl) (by intro _ _ _ h; exact h) hS (Or.inl ⟨by rfl, ?_⟩) ?_
        rotate_left 1
        · intro w' hS'
          go_simp
          all_goals with_reducible rfl
        simp only [Act.put, List.setIfInBounds_toArray, List.set_cons_zero, List.set_cons_succ]
        refine wpAnyT_take (i := 7) (oi := _) (v := ?_) (by rfl) (by kernel_rfl) (by intro _ _ _ h; exact h) hS (Or.inl ⟨by rfl, ?_⟩) ?_
        rotate_left 1
        · intro w' hS'
          go_simp
          all_goals with_reducible rfl
        simp only [Act.put, List.setIfInBounds_toArray, List.set_cons_zero, List.set_cons_succ]
        refine wpAnyT_take (i := 9) (oi := _) (v := ?_) (by rfl) (by kernel_rfl) (by intro _ _ _ h; exact h) hS (Or.inl ⟨by rfl, ?_⟩) ?_
        rotate_left 1
        · intro w' hS'
          go_simp
          all_goals with_reducible rfl
        simp only [Act.put, List.setIfInBounds_toArray, List.set_cons_zero, List.set_cons_succ]
        refine wpAnyT_take (i := 12) (oi := _) (v := ?_) (by rfl) (by kernel_rfl) (by intro _ _ _ h; exact h) hS (Or.inl ⟨by rfl, ?_⟩) ?_
        rotate_left 1
        · intro w' hS'
          go_simp
          all_goals with_reducible rfl
        simp only [Act.put, List.setIfInBounds_toArray, List.set_cons_zero, List.set_cons_succ]
        refine wpAnyT_take (i := 13) (oi := _) (v := ?_) (by rfl) (by kernel_rfl) (by intro _ _ _ h; exact h) hS (Or.inl ⟨by rfl, ?_⟩) ?_
        rotate_left 1
        · intro w' hS'
          go_simp
          all_goals with_reducible rfl
        simp only [Act.put, List.setIfInBounds_toArray, List.set_cons_zero, List.set_cons_succ]
        refine wpAnyT_take (i := 14) (oi := _) (v := ?_) (by rfl) (by kernel_rfl) (by intro _ _ _ h; exact h) hS (Or.inl ⟨by rfl, ?_⟩) ?_
        rotate_left 1
        · intro w' hS'
          go_simp
          all_goals with_reducible rfl
        simp only [Act.put, List.setIfInBounds_toArray, List.set_cons_zero, List.set_cons_succ]
        refine wpAnyT_take (i := 15) (oi := _) (v := ?_) (by rfl) (by kernel_rfl) (by intro _ _ _ h; exact h) hS (Or.inl ⟨by rfl, ?_⟩) ?_
        rotate_left 1
        · intro w' hS'
          go_simp
          all_goals with_reducible rfl
        simp only [Act.put, List.setIfInBounds_toArray, List.set_cons_zero, List.set_cons_succ]
        refine wpAnyT_take (i := 16) (oi := _) (v := ?_) (by rfl) (by kernel_rfl) (by intro _ _ _ h; exact h) hS (Or.inl ⟨by rfl, ?_⟩) ?_
        rotate_left 1
        · intro w' hS'
          go_simp
          all_goals with_reducible rfl
        simp only [Act.put, List.setIfInBounds_toArray, List.set_cons_zero, List.set_cons_succ]
        refine wpAnyT_take (i := 17) (oi := _) (v := ?_) (by rfl) (by kernel_rfl) (by intro _ _ _ h; exact h) hS (Or.inl ⟨by rfl, ?_⟩) ?_
        rotate_left 1
        · intro w' hS'
          go_simp
          all_goals with_reducible rfl
        simp only [Act.put, List.setIfInBounds_toArray, List.set_cons_zero, List.set_cons_succ]
        refine wpAnyT_all (rs := [1, 10]) (by kernel_rfl) (by simp) ?_
        intro ix hix
        simp only [List.mem_cons, List.not_mem_nil, or_false] at hix
        have hd0 : Hd w Q o L c A ys w.drew := ⟨HHd.out.c1, HHd.out.f1, HHd.out.rd, HHd.out.bel.drew, HHd.out.lq⟩
        rcases hix with rfl | rfl
        · refine wpT_op (o := _) (by rfl) (fun K hK => ?_)
          go_simp
          have hd1 := hd0.alloc (.cells #[] 3)
          have m1 : Mid (w.drew.alloc (.cells #[] 3)) w.heap.size 3 1 (.slice (some ⟨w.heap.size, 0, none⟩) 0 0) 0 [] := mid_empty w.drew w.heap.size (Nat.le_refl _)
          refine hK _ _ (fun _ => hd1.c1) ?_
          clear hK K
          try simp only [Act.put, List.setIfInBounds_toArray, List.set_cons_zero, List.set_cons_succ]
          refine wpAnyT_all (rs := [8, 10]) (by kernel_rfl) (by simp) ?_
          intro ix hix
          simp only [List.mem_cons, List.not_mem_nil, or_false] at hix
          rcases hix with rfl | rfl
          · refine wpT_op (o := _) (by rfl) (fun K hK => ?_)
            refine step_append_src (by rfl) _ _ _ (by rfl) w.heap.size 3 i0 _ 1 8 Try.underlying45 hi0 hz0 hz1 hz2 rfl (by omega) (.slice (some ⟨w.heap.size, 0, none⟩) 0 0) 0 [] (by rfl) m1 w.heap.size _ _ _ (ints (ys.take L)) (by rfl) (HA.out _ hd1) (ints_one _) (by unfold maxLen; omega) (by omega) hd1.bel.size ?_
            intro v2 w2 hm2 hr2
            have hd2 := hd1.ran m1 hr2
            refine hK _ _ (fun _ => hd2.c1) ?_
            clear hK K
            try simp only [Act.put, List.setIfInBounds_toArray, List.set_cons_zero, List.set_cons_succ]
            refine wpAnyT_all (rs := [10]) (by kernel_rfl) (by simp) ?_
            intro ix hix
            simp only [List.mem_cons, List.not_mem_nil, or_false] at hix
            subst hix
            refine wpT_op (o := _) (by rfl) (fun K hK => ?_)
            go_simp
            have hd3 := hd2.alloc (.cells #[.int .i64 n] 3)
            have m3 := Mid.alloc hm2 (.cells #[.int .i64 n] 3)
            refine hK _ _ (fun _ => hd3.c1) ?_
            clear hK K
            try simp only [Act.put, List.setIfInBounds_toArray, List.set_cons_zero, List.set_cons_succ]
            refine wpAnyT_all (rs := [11]) (by kernel_rfl) (by simp) ?_
            intro ix hix
            simp only [List.mem_cons, List.not_mem_nil, or_false] at hix
            subst hix
            refine wpT_op (o := _) (by rfl) (fun K hK => ?_)
            refine step_append_mid (by rfl) _ _ _ (by rfl) w.heap.size 3 i0 _ 1 8 Try.underlying45 hi0 hz0 hz1 hz2 rfl (by omega) v2 (0 + L) ([] ++ ints (ys.take L)) (by rfl) m3 ⟨w2.heap.size, 0, none⟩ 1 1 [.int .i64 n] (by rfl) (by rfl) (World.news_of_block (cs := #[.int .i64 n]) (t := 3) (fr := (0, 0)) (heap_alloc_new w2 _)) (by simp [Value.oneCell']) (by unfold maxLen; omega) (by omega) hd3.bel.size ?_
            intro v4 w4 hm4 hr4
            have hd4 := hd3.ran m3 hr4
            refine hK _ _ (fun _ => hd4.c1) ?_
            clear hK K
            try simp only [Act.put, List.setIfInBounds_toArray, List.set_cons_zero, List.set_cons_succ]
            refine wpAnyT_all (rs := [18]) (by kernel_rfl) (by simp) ?_
            intro ix hix
            simp only [List.mem_cons, List.not_mem_nil, or_false] at hix
            subst hix
            refine wpT_op (o := _) (by rfl) (fun K hK => ?_)
            refine step_append_src (by rfl) _ _ _ (by rfl) w.heap.size 3 i0 _ 1 8 Try.underlying45 hi0 hz0 hz1 hz2 rfl (by omega) v4 (0 + L + 1) ([] ++ ints (ys.take L) ++ [.int .i64 n]) (by rfl) hm4 w.heap.size _ _ _ (ints (ys.drop L)) (by rfl) (HB.out _ _) (ints_one _) (by unfold maxLen; omega) (by omega) hd4.bel.size ?_
            intro v5 w5 hm5 hr5
            obtain ⟨A5, c5, rfl⟩ := hm5.form
            have hd5 := hd4.ran hm4 hr5
            refine hK _ _ (fun _ => hd5.c1) ?_
            clear hK K
            try simp only [Act.put, List.setIfInBounds_toArray, List.set_cons_zero, List.set_cons_succ]
            have hS := hd5.c1
            have f5 := hd5.f1
            refine wpAnyT_take (i := 19) (oi := _) (v := ?_) (by rfl) (by kernel_rfl) (by intro _ _ _ h; exact h) hS (Or.inl ⟨by rfl, ?_⟩) ?_
            rotate_left 1
            · intro w' hS'
              go_simp
              all_goals with_reducible rfl
            simp only [Act.put, List.setIfInBounds_toArray, List.set_cons_zero, List.set_cons_succ]
            refine wpAnyT_take (i := 20) (oi := _) (v := ?_) (by rfl) (by kernel_rfl) (by intro _ _ _ h; exact h) hS (Or.inl ⟨by rfl, ?_⟩) ?_
            rotate_left 1
            · intro w' hS'
              go_simp
              all_goals with_reducible rfl
            simp only [Act.put, List.setIfInBounds_toArray, List.set_cons_zero, List.set_cons_succ]
            refine wpAnyT_all (rs := [21]) (by kernel_rfl) (by simp) ?_
            intro ix hix
            simp only [List.mem_cons, List.not_mem_nil, or_false] at hix
            subst hix
            refine wpT_op (o := _) (by rfl) (fun K hK => ?_)
            try go_simp
            refine hK _ _ (fun h => absurd h (by omega)) ?_
            clear hK K
            refine wpAnyT_done (by kernel_rfl) ?_ _
            have HM5 := Lib.hid hm5
            clear hm5
            go_wp2
            go_ret
            exact ⟨rfl, fin_ok hd5 HHd.out.c1 HL.out hi HI.out (fun h => absurd h (Nat.lt_irrefl _)) HM5.out (by have := HL.out; omega) (by have := HL.out; omega)⟩
          · refine wpT_op (o := _) (by rfl) (fun K hK => ?_)
            go_simp
            have hd2 := hd1.alloc (.cells #[.int .i64 n] 3)
            have m2 := Mid.alloc m1 (.cells #[.int .i64 n] 3)
            have hN2 : ((w.drew.alloc (.cells #[] 3)).alloc (.cells #[.int .i64 n] 3)).cell? ⟨w.heap.size + 1, 0, none⟩ = some (.int .i64 n) := World.cell?_alloc_at _ _ _ _ (by simp)
            refine hK _ _ (fun _ => hd2.c1) ?_
            clear hK K
            try simp only [Act.put, List.setIfInBounds_toArray, List.set_cons_zero, List.set_cons_succ]
            refine wpAnyT_all (rs := [8]) (by kernel_rfl) (by simp) ?_
            intro ix hix
            simp only [List.mem_cons, List.not_mem_nil, or_false] at hix
            subst hix
            refine wpT_op (o := _) (by rfl) (fun K hK => ?_)
            refine step_append_src (by rfl) _ _ _ (by rfl) w.heap.size 3 i0 _ 1 8 Try.underlying45 hi0 hz0 hz1 hz2 rfl (by omega) (.slice (some ⟨w.heap.size, 0, none⟩) 0 0) 0 [] (by rfl) m2 w.heap.size _ _ _ (ints (ys.take L)) (by rfl) (HA.out _ hd2) (ints_one _) (by unfold maxLen; omega) (by omega) hd2.bel.size ?_
            intro v3 w3 hm3 hr3
            have hd3 := hd2.ran m2 hr3
            have hN3 : w3.cell? ⟨w.heap.size + 1, 0, none⟩ = some (.int .i64 n) := hr3.cell _ (by simp <;> omega) (by simp [Value.ownBlock]) hN2
            refine hK _ _ (fun _ => hd3.c1) ?_
            clear hK K
            try simp only [Act.put, List.setIfInBounds_toArray, List.set_cons_zero, List.set_cons_succ]
            refine wpAnyT_all (rs := [11]) (by kernel_rfl) (by simp) ?_
            intro ix hix
            simp only [List.mem_cons, List.not_mem_nil, or_false] at hix
            subst hix
            refine wpT_op (o := _) (by rfl) (fun K hK => ?_)
            refine step_append_mid (by rfl) _ _ _ (by rfl) w.heap.size 3 i0 _ 1 8 Try.underlying45 hi0 hz0 hz1 hz2 rfl (by omega) v3 (0 + L) ([] ++ ints (ys.take L)) (by rfl) hm3 ⟨w.heap.size + 1, 0, none⟩ 1 1 [.int .i64 n] (by rfl) (by rfl) (fun jx ux hj => by rcases jx with _ | jx; (simp only [List.getElem?_cons_zero, Option.some.injEq] at hj; rw [← hj]; exact hN3); simp at hj) (by simp [Value.oneCell']) (by unfold maxLen; omega) (by omega) hd3.bel.size ?_
            intro v4 w4 hm4 hr4
            have hd4 := hd3.ran hm3 hr4
            refine hK _ _ (fun _ => hd4.c1) ?_
            clear hK K
            try simp only [Act.put, List.setIfInBounds_toArray, List.set_cons_zero, List.set_cons_succ]
            refine wpAnyT_all (rs := [18]) (by kernel_rfl) (by simp) ?_
            intro ix hix
            simp only [List.mem_cons, List.not_mem_nil, or_false] at hix
            subst hix
            refine wpT_op (o := _) (by rfl) (fun K hK => ?_)
            refine step_append_src (by rfl) _ _ _ (by rfl) w.heap.size 3 i0 _ 1 8 Try.underlying45 hi0 hz0 hz1 hz2 rfl (by omega) v4 (0 + L + 1) ([] ++ ints (ys.take L) ++ [.int .i64 n]) (by rfl) hm4 w.heap.size _ _ _ (ints (ys.drop L)) (by rfl) (HB.out _ _) (ints_one _) (by unfold maxLen; omega) (by omega) hd4.bel.size ?_
            intro v5 w5 hm5 hr5
            obtain ⟨A5, c5, rfl⟩ := hm5.form
            have hd5 := hd4.ran hm4 hr5
            refine hK _ _ (fun _ => hd5.c1) ?_
            clear hK K
            try simp only [Act.put, List.setIfInBounds_toArray, List.set_cons_zero, List.set_cons_succ]
            have hS := hd5.c1
            have f5 := hd5.f1
            refine wpAnyT_take (i := 19) (oi := _) (v := ?_) (by rfl) (by kernel_rfl) (by intro _ _ _ h; exact h) hS (Or.inl ⟨by rfl, ?_⟩) ?_
            rotate_left 1
            · intro w' hS'
              go_simp
              all_goals with_reducible rfl
            simp only [Act.put, List.setIfInBounds_toArray, List.set_cons_zero, List.set_cons_succ]
            refine wpAnyT_take (i := 20) (oi := _) (v := ?_) (by rfl) (by kernel_rfl) (by intro _ _ _ h; exact h) hS (Or.inl ⟨by rfl, ?_⟩) ?_
            rotate_left 1
            · intro w' hS'
              go_simp
              all_goals with_reducible rfl
            simp only [Act.put, List.setIfInBounds_toArray, List.set_cons_zero, List.set_cons_succ]
            refine wpAnyT_all (rs := [21]) (by kernel_rfl) (by simp) ?_
            intro ix hix
            simp only [List.mem_cons, List.not_mem_nil, or_false] at hix
            subst hix
            refine wpT_op (o := _) (by rfl) (fun K hK => ?_)
            try go_simp
            refine hK _ _ (fun h => absurd h (by omega)) ?_
            clear hK K
            refine wpAnyT_done (by kernel_rfl) ?_ _
            have HM5 := Lib.hid hm5
            clear hm5
            go_wp2
            go_ret
            exact ⟨rfl, fin_ok hd5 HHd.out.c1 HL.out hi HI.out (fun h => absurd h (Nat.lt_irrefl _)) HM5.out (by have := HL.out; omega) (by have := HL.out; omega)⟩
        · refine wpT_op (o := _) (by rfl) (fun K hK => ?_)
          go_simp
          have hd1 := hd0.alloc (.cells #[.int .i64 n] 3)
          have hN1 : (w.drew.alloc (.cells #[.int .i64 n] 3)).cell? ⟨w.heap.size, 0, none⟩ = some (.int .i64 n) := World.cell?_alloc_at _ _ _ _ rfl
          refine hK _ _ (fun _ => hd1.c1) ?_
          clear hK K
          try simp only [Act.put, List.setIfInBounds_toArray, List.set_cons_zero, List.set_cons_succ]
          refine wpAnyT_all (rs := [1]) (by kernel_rfl) (by simp) ?_
          intro ix hix
          simp only [List.mem_cons, List.not_mem_nil, or_false] at hix
          subst hix
          refine wpT_op (o := _) (by rfl) (fun K hK => ?_)
          go_simp
          have hd2 := hd1.alloc (.cells #[] 3)
          have m2 : Mid ((w.drew.alloc (.cells #[.int .i64 n] 3)).alloc (.cells #[] 3)) w.heap.size 3 1 (.slice (some ⟨w.heap.size + 1, 0, none⟩) 0 0) 0 [] := by have := mid_empty (w.drew.alloc (.cells #[.int .i64 n] 3)) w.heap.size (by simp); simpa using this
          have hN2 : ((w.drew.alloc (.cells #[.int .i64 n] 3)).alloc (.cells #[] 3)).cell? ⟨w.heap.size, 0, none⟩ = some (.int .i64 n) := (World.cell?_alloc_lt _ _ ⟨w.heap.size, 0, none⟩ (by simp)).trans hN1
          refine hK _ _ (fun _ => hd2.c1) ?_
          clear hK K
          try simp only [Act.put, List.setIfInBounds_toArray, List.set_cons_zero, List.set_cons_succ]
          refine wpAnyT_all (rs := [8]) (by kernel_rfl) (by simp) ?_
          intro ix hix
          simp only [List.mem_cons, List.not_mem_nil, or_false] at hix
          subst hix
          refine wpT_op (o := _) (by rfl) (fun K hK => ?_)
          refine step_append_src (by rfl) _ _ _ (by rfl) w.heap.size 3 i0 _ 1 8 Try.underlying45 hi0 hz0 hz1 hz2 rfl (by omega) (.slice (some ⟨w.heap.size + 1, 0, none⟩) 0 0) 0 [] (by rfl) m2 w.heap.size _ _ _ (ints (ys.take L)) (by rfl) (HA.out _ hd2) (ints_one _) (by unfold maxLen; omega) (by omega) hd2.bel.size ?_
          intro v3 w3 hm3 hr3
          have hd3 := hd2.ran m2 hr3
          have hN3 : w3.cell? ⟨w.heap.size, 0, none⟩ = some (.int .i64 n) := hr3.cell _ (by simp <;> omega) (by simp [Value.ownBlock]) hN2
          refine hK _ _ (fun _ => hd3.c1) ?_
          clear hK K
          try simp only [Act.put, List.setIfInBounds_toArray, List.set_cons_zero, List.set_cons_succ]
          refine wpAnyT_all (rs := [11]) (by kernel_rfl) (by simp) ?_
          intro ix hix
          simp only [List.mem_cons, List.not_mem_nil, or_false] at hix
          subst hix
          refine wpT_op (o := _) (by rfl) (fun K hK => ?_)
          refine step_append_mid (by rfl) _ _ _ (by rfl) w.heap.size 3 i0 _ 1 8 Try.underlying45 hi0 hz0 hz1 hz2 rfl (by omega) v3 (0 + L) ([] ++ ints (ys.take L)) (by rfl) hm3 ⟨w.heap.size, 0, none⟩ 1 1 [.int .i64 n] (by rfl) (by rfl) (fun jx ux hj => by rcases jx with _ | jx; (simp only [List.getElem?_cons_zero, Option.some.injEq] at hj; rw [← hj]; exact hN3); simp at hj) (by simp [Value.oneCell']) (by unfold maxLen; omega) (by omega) hd3.bel.size ?_
          intro v4 w4 hm4 hr4
          have hd4 := hd3.ran hm3 hr4
          refine hK _ _ (fun _ => hd4.c1) ?_
          clear hK K
          try simp only [Act.put, List.setIfInBounds_toArray, List.set_cons_zero, List.set_cons_succ]
          refine wpAnyT_all (rs := [18]) (by kernel_rfl) (by simp) ?_
          intro ix hix
          simp only [List.mem_cons, List.not_mem_nil, or_false] at hix
          subst hix
          refine wpT_op (o := _) (by rfl) (fun K hK => ?_)
          refine step_append_src (by rfl) _ _ _ (by rfl) w.heap.size 3 i0 _ 1 8 Try.underlying45 hi0 hz0 hz1 hz2 rfl (by omega) v4 (0 + L + 1) ([] ++ ints (ys.take L) ++ [.int .i64 n]) (by rfl) hm4 w.heap.size _ _ _ (ints (ys.drop L)) (by rfl) (HB.out _ _) (ints_one _) (by unfold maxLen; omega) (by omega) hd4.bel.size ?_
          intro v5 w5 hm5 hr5
          obtain ⟨A5, c5, rfl⟩ := hm5.form
          have hd5 := hd4.ran hm4 hr5
          refine hK _ _ (fun _ => hd5.c1) ?_
          clear hK K
          try simp only [Act.put, List.setIfInBounds_toArray, List.set_cons_zero, List.set_cons_succ]
          have hS := hd5.c1
          have f5 := hd5.f1
          refine wpAnyT_take (i := 19) (oi := _) (v := ?_) (by rfl) (by kernel_rfl) (by intro _ _ _ h; exact h) hS (Or.inl ⟨by rfl, ?_⟩) ?_
          rotate_left 1
          · intro w' hS'
            go_simp
            all_goals with_reducible rfl
          simp only [Act.put, List.setIfInBounds_toArray, List.set_cons_zero, List.set_cons_succ]
          refine wpAnyT_take (i := 20) (oi := _) (v := ?_) (by rfl) (by kernel_rfl) (by intro _ _ _ h; exact h) hS (Or.inl ⟨by rfl, ?_⟩) ?_
          rotate_left 1
          · intro w' hS'
            go_simp
            all_goals with_reducible rfl
          simp only [Act.put, List.setIfInBounds_toArray, List.set_cons_zero, List.set_cons_succ]
          refine wpAnyT_all (rs := [21]) (by kernel_rfl) (by simp) ?_
          intro ix hix
          simp only [List.mem_cons, List.not_mem_nil, or_false] at hix
          subst hix
          refine wpT_op (o := _) (by rfl) (fun K hK => ?_)
          try go_simp
          refine hK _ _ (fun h => absurd h (by omega)) ?_
          clear hK K
          refine wpAnyT_done (by kernel_rfl) ?_ _
          have HM5 := Lib.hid hm5
          clear hm5
          go_wp2
          go_ret
          exact ⟨rfl, fin_ok hd5 HHd.out.c1 HL.out hi HI.out (fun h => absurd h (Nat.lt_irrefl _)) HM5.out (by have := HL.out; omega) (by have := HL.out; omega)⟩
      · go_wp2
        clear hrd
        have HA : Hid (∀ w', Hd w Q o L c A ys w' → Reads w' w.heap.size 1 A L (ints (ys.take L))) := Lib.hid (fun w' hd => by have := hd.rd.head (k := L) hi; unfold ints at this ⊢; rwa [Nat.mul_one, ← List.map_take] at this)
        have HB : Hid (∀ (w' : World) (Z : Option Addr), Reads w' w.heap.size 1 Z 0 (ints (ys.drop L))) := Lib.hid (fun w' Z => ⟨by simp [ints, HL.out], fun h => absurd h (by omega)⟩)
        refine wp_region_T (fun w' => w'.cell? ⟨Q, o + 1, none⟩ = some (.slice A L c)) 21 (by kernel_rfl) ?_
        have hS : w.drew.cell? ⟨Q, o + 1, none⟩ = some (.slice A L c) := h1
        refine wpAnyT_take (i := 0) (oi := _) (v := ?_) (by rfl) (by kernel_rfl) (by intro _ _ _ h; exact h) hS (Or.inl ⟨by rfl, ?_⟩) ?_
        rotate_left 1
        · intro w' hS'
          go_simp
          all_goals with_reducible rfl
        simp only [Act.put, List.setIfInBounds_toArray, List.set_cons_zero, List.set_cons_succ]
        refine wpAnyT_take (i := 2) (oi := _) (v := ?_) (by rfl) (by kernel_rfl) (by intro _ _ _ h; exact h) hS (Or.inl ⟨by rfl, ?_⟩) ?_
        rotate_left 1
        · intro w' hS'
          go_simp
          all_goals with_reducible rfl
        simp only [Act.put, List.setIfInBounds_toArray, List.set_cons_zero, List.set_cons_succ]
        refine wpAnyT_take (i := 3) (oi := _) (v := ?_) (by rfl) (by kernel_rfl) (by intro _ _ _ h; exact h) hS (Or.inl ⟨by rfl, ?_⟩) ?_
        rotate_left 1
        · intro w' hS'
          go_simp
          all_goals with_reducible rfl
        simp only [Act.put, List.setIfInBounds_toArray, List.set_cons_zero, List.set_cons_succ]
        refine wpAnyT_take (i := 4) (oi := _) (v := ?_) (by rfl) (by kernel_rfl) (by intro _ _ _ h; exact h) hS (Or.inl ⟨by rfl, ?_⟩) ?_
        rotate_left 1
        · intro w' hS'
          go_simp
          all_goals with_reducible rfl
        simp only [Act.put, List.setIfInBounds_toArray, List.set_cons_zero, List.set_cons_succ]
        refine wpAnyT_take (i := 5) (oi := _) (v := ?_) (by rfl) (by kernel_rfl) (by intro _ _ _ h; exact h) hS (Or.inl ⟨by rfl, ?_⟩) ?_
        rotate_left 1
        · intro w' hS'
          go_simp
          all_goals with_reducible rfl
        simp only [Act.put, List.setIfInBounds_toArray, List.set_cons_zero, List.set_cons_succ]
        refine wpAnyT_take (i := 6) (oi := _) (v := ?_) (by rfl) (by kernel_rfl) (by intro _ _ _ h; exact h) hS (Or.inl ⟨by rfl, ?_⟩) ?_
        rotate_left 1
        · intro w' hS'
          go_simp
          all_goals with_reducible rfl
        simp only [Act.put, List.setIfInBounds_toArray, List.set_cons_zero, List.set_cons_succ]
        refine wpAnyT_take (i := 7) (oi := _) (v := ?_) (by rfl) (by kernel_rfl) (by intro _ _ _ h; exact h) hS (Or.inl ⟨by rfl, ?_⟩) ?_
        rotate_left 1
        · intro w' hS'
          go_simp
          all_goals with_reducible rfl
        simp only [Act.put, List.setIfInBounds_toArray, List.set_cons_zero, List.set_cons_succ]
        refine wpAnyT_take (i := 9) (oi := _) (v := ?_) (by rfl) (by kernel_rfl) (by intro _ _ _ h; exact h) hS (Or.inl ⟨by rfl, ?_⟩) ?_
        rotate_left 1
        · intro w' hS'
          go_simp
          all_goals with_reducible rfl
        simp only [Act.put, List.setIfInBounds_toArray, List.set_cons_zero, List.set_cons_succ]
        refine wpAnyT_take (i := 12) (oi := _) (v := ?_) (by rfl) (by kernel_rfl) (by intro _ _ _ h; exact h) hS (Or.inl ⟨by rfl, ?_⟩) ?_
        rotate_left 1
        · intro w' hS'
          go_simp
          all_goals with_reducible rfl
        simp only [Act.put, List.setIfInBounds_toArray, List.set_cons_zero, List.set_cons_succ]
        refine wpAnyT_take (i := 13) (oi := _) (v := ?_) (by rfl) (by kernel_rfl) (by intro _ _ _ h; exact h) hS (Or.inl ⟨by rfl, ?_⟩) ?_
        rotate_left 1
        · intro w' hS'
          go_simp
          all_goals with_reducible rfl
        simp only [Act.put, List.setIfInBounds_toArray, List.set_cons_zero, List.set_cons_succ]
        refine wpAnyT_take (i := 14) (oi := _) (v := ?_) (by rfl) (by kernel_rfl) (by intro _ _ _ h; exact h) hS (Or.inl ⟨by rfl, ?_⟩) ?_
        rotate_left 1
        · intro w' hS'
          go_simp
          all_goals with_reducible rfl
        simp only [Act.put, List.setIfInBounds_toArray, List.set_cons_zero, List.set_cons_succ]
        refine wpAnyT_take (i := 15) (oi := _) (v := ?_) (by rfl) (by kernel_rfl) (by intro _ _ _ h; exact h) hS (Or.inl ⟨by rfl, ?_⟩) ?_
        rotate_left 1
        · intro w' hS'
          go_simp
          all_goals with_reducible rfl
        simp only [Act.put, List.setIfInBounds_toArray, List.set_cons_zero, List.set_cons_succ]
        refine wpAnyT_take (i := 16) (oi := _) (v := ?_) (by rfl) (by kernel_rfl) (by intro _ _ _ h; exact h) hS (Or.inl ⟨by rfl, ?_⟩) ?_
        rotate_left 1
        · intro w' hS'
          go_simp
          all_goals with_reducible rfl
        simp only [Act.put, List.setIfInBounds_toArray, List.set_cons_zero, List.set_cons_succ]
        refine wpAnyT_take (i := 17) (oi := _) (v := ?_) (by rfl) (by kernel_rfl) (by intro _ _ _ h; exact h) hS (Or.inl ⟨by rfl, ?_⟩) ?_
        rotate_left 1
        · intro w' hS'
          go_simp
          all_goals with_reducible rfl
        simp only [Act.put, List.setIfInBounds_toArray, List.set_cons_zero, List.set_cons_succ]
        refine wpAnyT_all (rs := [1, 10]) (by kernel_rfl) (by simp) ?_
        intro ix hix
        simp only [List.mem_cons, List.not_mem_nil, or_false] at hix
        have hd0 : Hd w Q o L c A ys w.drew := ⟨HHd.out.c1, HHd.out.f1, HHd.out.rd, HHd.out.bel.drew, HHd.out.lq⟩
        rcases hix with rfl | rfl
        · refine wpT_op (o := _) (by rfl) (fun K hK => ?_)
          go_simp
          have hd1 := hd0.alloc (.cells #[] 3)
          have m1 : Mid (w.drew.alloc (.cells #[] 3)) w.heap.size 3 1 (.slice (some ⟨w.heap.size, 0, none⟩) 0 0) 0 [] := mid_empty w.drew w.heap.size (Nat.le_refl _)
          refine hK _ _ (fun _ => hd1.c1) ?_
          clear hK K
          try simp only [Act.put, List.setIfInBounds_toArray, List.set_cons_zero, List.set_cons_succ]
          refine wpAnyT_all (rs := [8, 10]) (by kernel_rfl) (by simp) ?_
          intro ix hix
          simp only [List.mem_cons, List.not_mem_nil, or_false] at hix
          rcases hix with rfl | rfl
          · refine wpT_op (o := _) (by rfl) (fun K hK => ?_)
            refine step_append_src (by rfl) _ _ _ (by rfl) w.heap.size 3 i0 _ 1 8 Try.underlying45 hi0 hz0 hz1 hz2 rfl (by omega) (.slice (some ⟨w.heap.size, 0, none⟩) 0 0) 0 [] (by rfl) m1 w.heap.size _ _ _ (ints (ys.take L)) (by rfl) (HA.out _ hd1) (ints_one _) (by unfold maxLen; omega) (by omega) hd1.bel.size ?_
            intro v2 w2 hm2 hr2
            have hd2 := hd1.ran m1 hr2
            refine hK _ _ (fun _ => hd2.c1) ?_
            clear hK K
            try simp only [Act.put, List.setIfInBounds_toArray, List.set_cons_zero, List.set_cons_succ]
            refine wpAnyT_all (rs := [10]) (by kernel_rfl) (by simp) ?_
            intro ix hix
            simp only [List.mem_cons, List.not_mem_nil, or_false] at hix
            subst hix
            refine wpT_op (o := _) (by rfl) (fun K hK => ?_)
            go_simp
            have hd3 := hd2.alloc (.cells #[.int .i64 n] 3)
            have m3 := Mid.alloc hm2 (.cells #[.int .i64 n] 3)
            refine hK _ _ (fun _ => hd3.c1) ?_
            clear hK K
            try simp only [Act.put, List.setIfInBounds_toArray, List.set_cons_zero, List.set_cons_succ]
            refine wpAnyT_all (rs := [11]) (by kernel_rfl) (by simp) ?_
            intro ix hix
            simp only [List.mem_cons, List.not_mem_nil, or_false] at hix
            subst hix
            refine wpT_op (o := _) (by rfl) (fun K hK => ?_)
            refine step_append_mid (by rfl) _ _ _ (by rfl) w.heap.size 3 i0 _ 1 8 Try.underlying45 hi0 hz0 hz1 hz2 rfl (by omega) v2 (0 + L) ([] ++ ints (ys.take L)) (by rfl) m3 ⟨w2.heap.size, 0, none⟩ 1 1 [.int .i64 n] (by rfl) (by rfl) (World.news_of_block (cs := #[.int .i64 n]) (t := 3) (fr := (0, 0)) (heap_alloc_new w2 _)) (by simp [Value.oneCell']) (by unfold maxLen; omega) (by omega) hd3.bel.size ?_
            intro v4 w4 hm4 hr4
            have hd4 := hd3.ran m3 hr4
            refine hK _ _ (fun _ => hd4.c1) ?_
            clear hK K
            try simp only [Act.put, List.setIfInBounds_toArray, List.set_cons_zero, List.set_cons_succ]
            refine wpAnyT_all (rs := [18]) (by kernel_rfl) (by simp) ?_
            intro ix hix
            simp only [List.mem_cons, List.not_mem_nil, or_false] at hix
            subst hix
            refine wpT_op (o := _) (by rfl) (fun K hK => ?_)
            refine step_append_src (by rfl) _ _ _ (by rfl) w.heap.size 3 i0 _ 1 8 Try.underlying45 hi0 hz0 hz1 hz2 rfl (by omega) v4 (0 + L + 1) ([] ++ ints (ys.take L) ++ [.int .i64 n]) (by rfl) hm4 w.heap.size _ _ _ (ints (ys.drop L)) (by rfl) (HB.out _ _) (ints_one _) (by unfold maxLen; omega) (by omega) hd4.bel.size ?_
            intro v5 w5 hm5 hr5
            obtain ⟨A5, c5, rfl⟩ := hm5.form
            have hd5 := hd4.ran hm4 hr5
            refine hK _ _ (fun _ => hd5.c1) ?_
            clear hK K
            try simp only [Act.put, List.setIfInBounds_toArray, List.set_cons_zero, List.set_cons_succ]
            have hS := hd5.c1
            have f5 := hd5.f1
            refine wpAnyT_take (i := 19) (oi := _) (v := ?_) (by rfl) (by kernel_rfl) (by intro _ _ _ h; exact h) hS (Or.inl ⟨by rfl, ?_⟩) ?_
            rotate_left 1
            · intro w' hS'
              go_simp
              all_goals with_reducible rfl
            simp only [Act.put, List.setIfInBounds_toArray, List.set_cons_zero, List.set_cons_succ]
            refine wpAnyT_take (i := 20) (oi := _) (v := ?_) (by rfl) (by kernel_rfl) (by intro _ _ _ h; exact h) hS (Or.inl ⟨by rfl, ?_⟩) ?_
            rotate_left 1
            · intro w' hS'
              go_simp
              all_goals with_reducible rfl
            simp only [Act.put, List.setIfInBounds_toArray, List.set_cons_zero, List.set_cons_succ]
            refine wpAnyT_all (rs := [21]) (by kernel_rfl) (by simp) ?_
            intro ix hix
            simp only [List.mem_cons, List.not_mem_nil, or_false] at hix
            subst hix
            refine wpT_op (o := _) (by rfl) (fun K hK => ?_)
            try go_simp
            refine hK _ _ (fun h => absurd h (by omega)) ?_
            clear hK K
            refine wpAnyT_done (by kernel_rfl) ?_ _
            have HM5 := Lib.hid hm5
            clear hm5
            go_wp2
            go_ret
            exact ⟨rfl, fin_ok hd5 HHd.out.c1 HL.out hi HI.out (fun h => absurd h (Nat.lt_irrefl _)) HM5.out (by have := HL.out; omega) (by have := HL.out; omega)⟩
          · refine wpT_op (o := _) (by rfl) (fun K hK => ?_)
            go_simp
            have hd2 := hd1.alloc (.cells #[.int .i64 n] 3)
            have m2 := Mid.alloc m1 (.cells #[.int .i64 n] 3)
            have hN2 : ((w.drew.alloc (.cells #[] 3)).alloc (.cells #[.int .i64 n] 3)).cell? ⟨w.heap.size + 1, 0, none⟩ = some (.int .i64 n) := World.cell?_alloc_at _ _ _ _ (by simp)
            refine hK _ _ (fun _ => hd2.c1) ?_
            clear hK K
            try simp only [Act.put, List.setIfInBounds_toArray, List.set_cons_zero, List.set_cons_succ]
            refine wpAnyT_all (rs := [8]) (by kernel_rfl) (by simp) ?_
            intro ix hix
            simp only [List.mem_cons, List.not_mem_nil, or_false] at hix
            subst hix
            refine wpT_op (o := _) (by rfl) (fun K hK => ?_)
            refine step_append_src (by rfl) _ _ _ (by rfl) w.heap.size 3 i0 _ 1 8 Try.underlying45 hi0 hz0 hz1 hz2 rfl (by omega) (.slice (some ⟨w.heap.size, 0, none⟩) 0 0) 0 [] (by rfl) m2 w.heap.size _ _ _ (ints (ys.take L)) (by rfl) (HA.out _ hd2) (ints_one _) (by unfold maxLen; omega) (by omega) hd2.bel.size ?_
            intro v3 w3 hm3 hr3
            have hd3 := hd2.ran m2 hr3
            have hN3 : w3.cell? ⟨w.heap.size + 1, 0, none⟩ = some (.int .i64 n) := hr3.cell _ (by simp <;> omega) (by simp [Value.ownBlock]) hN2
            refine hK _ _ (fun _ => hd3.c1) ?_
            clear hK K
            try simp only [Act.put, List.setIfInBounds_toArray, List.set_cons_zero, List.set_cons_succ]
            refine wpAnyT_all (rs := [11]) (by kernel_rfl) (by simp) ?_
            intro ix hix
            simp only [List.mem_cons, List.not_mem_nil, or_false] at hix
            subst hix
            refine wpT_op (o := _) (by rfl) (fun K hK => ?_)
            refine step_append_mid (by rfl) _ _ _ (by rfl) w.heap.size 3 i0 _ 1 8 Try.underlying45 hi0 hz0 hz1 hz2 rfl (by omega) v3 (0 + L) ([] ++ ints (ys.take L)) (by rfl) hm3 ⟨w.heap.size + 1, 0, none⟩ 1 1 [.int .i64 n] (by rfl) (by rfl) (fun jx ux hj => by rcases jx with _ | jx; (simp only [List.getElem?_cons_zero, Option.some.injEq] at hj; rw [← hj]; exact hN3); simp at hj) (by simp [Value.oneCell']) (by unfold maxLen; omega) (by omega) hd3.bel.size ?_
            intro v4 w4 hm4 hr4
            have hd4 := hd3.ran hm3 hr4
            refine hK _ _ (fun _ => hd4.c1) ?_
            clear hK K
            try simp only [Act.put, List.setIfInBounds_toArray, List.set_cons_zero, List.set_cons_succ]
            refine wpAnyT_all (rs := [18]) (by kernel_rfl) (by simp) ?_
            intro ix hix
            simp only [List.mem_cons, List.not_mem_nil, or_false] at hix
            subst hix
            refine wpT_op (o := _) (by rfl) (fun K hK => ?_)
            refine step_append_src (by rfl) _ _ _ (by rfl) w.heap.size 3 i0 _ 1 8 Try.underlying45 hi0 hz0 hz1 hz2 rfl (by omega) v4 (0 + L + 1) ([] ++ ints (ys.take L) ++ [.int .i64 n]) (by rfl) hm4 w.heap.size _ _ _ (ints (ys.drop L)) (by rfl) (HB.out _ _) (ints_one _) (by unfold maxLen; omega) (by omega) hd4.bel.size ?_
            intro v5 w5 hm5 hr5
            obtain ⟨A5, c5, rfl⟩ := hm5.form
            have hd5 := hd4.ran hm4 hr5
            refine hK _ _ (fun _ => hd5.c1) ?_
            clear hK K
            try simp only [Act.put, List.setIfInBounds_toArray, List.set_cons_zero, List.set_cons_succ]
            have hS := hd5.c1
            have f5 := hd5.f1
            refine wpAnyT_take (i := 19) (oi := _) (v := ?_) (by rfl) (by kernel_rfl) (by intro _ _ _ h; exact h) hS (Or.inl ⟨by rfl, ?_⟩) ?_
            rotate_left 1
            · intro w' hS'
              go_simp
              all_goals with_reducible rfl
            simp only [Act.put, List.setIfInBounds_toArray, List.set_cons_zero, List.set_cons_succ]
            refine wpAnyT_take (i := 20) (oi := _) (v := ?_) (by rfl) (by kernel_rfl) (by intro _ _ _ h; exact h) hS (Or.inl ⟨by rfl, ?_⟩) ?_
            rotate_left 1
            · intro w' hS'
              go_simp
              all_goals with_reducible rfl
            simp only [Act.put, List.setIfInBounds_toArray, List.set_cons_zero, List.set_cons_succ]
            refine wpAnyT_all (rs := [21]) (by kernel_rfl) (by simp) ?_
            intro ix hix
            simp only [List.mem_cons, List.not_mem_nil, or_false] at hix
            subst hix
            refine wpT_op (o := _) (by rfl) (fun K hK => ?_)
            try go_simp
            refine hK _ _ (fun h => absurd h (by omega)) ?_
            clear hK K
            refine wpAnyT_done (by kernel_rfl) ?_ _
            have HM5 := Lib.hid hm5
            clear hm5
            go_wp2
            go_ret
            exact ⟨rfl, fin_ok hd5 HHd.out.c1 HL.out hi HI.out (fun h => absurd h (Nat.lt_irrefl _)) HM5.out (by have := HL.out; omega) (by have := HL.out; omega)⟩
        · refine wpT_op (o := _) (by rfl) (fun K hK => ?_)
          go_simp
          have hd1 := hd0.alloc (.cells #[.int .i64 n] 3)
          have hN1 : (w.drew.alloc (.cells #[.int .i64 n] 3)).cell? ⟨w.heap.size, 0, none⟩ = some (.int .i64 n) := World.cell?_alloc_at _ _ _ _ rfl
          refine hK _ _ (fun _ => hd1.c1) ?_
          clear hK K
          try simp only [Act.put, List.setIfInBounds_toArray, List.set_cons_zero, List.set_cons_succ]
          refine wpAnyT_all (rs := [1]) (by kernel_rfl) (by simp) ?_
          intro ix hix
          simp only [List.mem_cons, List.not_mem_nil, or_false] at hix
          subst hix
          refine wpT_op (o := _) (by rfl) (fun K hK => ?_)
          go_simp
          have hd2 := hd1.alloc (.cells #[] 3)
          have m2 : Mid ((w.drew.alloc (.cells #[.int .i64 n] 3)).alloc (.cells #[] 3)) w.heap.size 3 1 (.slice (some ⟨w.heap.size + 1, 0, none⟩) 0 0) 0 [] := by have := mid_empty (w.drew.alloc (.cells #[.int .i64 n] 3)) w.heap.size (by simp); simpa using this
          have hN2 : ((w.drew.alloc (.cells #[.int .i64 n] 3)).alloc (.cells #[] 3)).cell? ⟨w.heap.size, 0, none⟩ = some (.int .i64 n) := (World.cell?_alloc_lt _ _ ⟨w.heap.size, 0, none⟩ (by simp)).trans hN1
          refine hK _ _ (fun _ => hd2.c1) ?_
          clear hK K
          try simp only [Act.put, List.setIfInBounds_toArray, List.set_cons_zero, List.set_cons_succ]
          refine wpAnyT_all (rs := [8]) (by kernel_rfl) (by simp) ?_
          intro ix hix
          simp only [List.mem_cons, List.not_mem_nil, or_false] at hix
          subst hix
          refine wpT_op (o := _) (by rfl) (fun K hK => ?_)
          refine step_append_src (by rfl) _ _ _ (by rfl) w.heap.size 3 i0 _ 1 8 Try.underlying45 hi0 hz0 hz1 hz2 rfl (by omega) (.slice (some ⟨w.heap.size + 1, 0, none⟩) 0 0) 0 [] (by rfl) m2 w.heap.size _ _ _ (ints (ys.take L)) (by rfl) (HA.out _ hd2) (ints_one _) (by unfold maxLen; omega) (by omega) hd2.bel.size ?_
          intro v3 w3 hm3 hr3
          have hd3 := hd2.ran m2 hr3
          have hN3 : w3.cell? ⟨w.heap.size, 0, none⟩ = some (.int .i64 n) := hr3.cell _ (by simp <;> omega) (by simp [Value.ownBlock]) hN2
          refine hK _ _ (fun _ => hd3.c1) ?_
          clear hK K
          try simp only [Act.put, List.setIfInBounds_toArray, List.set_cons_zero, List.set_cons_succ]
          refine wpAnyT_all (rs := [11]) (by kernel_rfl) (by simp) ?_
          intro ix hix
          simp only [List.mem_cons, List.not_mem_nil, or_false] at hix
          subst hix
          refine wpT_op (o := _) (by rfl) (fun K hK => ?_)
          refine step_append_mid (by rfl) _ _ _ (by rfl) w.heap.size 3 i0 _ 1 8 Try.underlying45 hi0 hz0 hz1 hz2 rfl (by omega) v3 (0 + L) ([] ++ ints (ys.take L)) (by rfl) hm3 ⟨w.heap.size, 0, none⟩ 1 1 [.int .i64 n] (by rfl) (by rfl) (fun jx ux hj => by rcases jx with _ | jx; (simp only [List.getElem?_cons_zero, Option.some.injEq] at hj; rw [← hj]; exact hN3); simp at hj) (by simp [Value.oneCell']) (by unfold maxLen; omega) (by omega) hd3.bel.size ?_
          intro v4 w4 hm4 hr4
          have hd4 := hd3.ran hm3 hr4
          refine hK _ _ (fun _ => hd4.c1) ?_
          clear hK K
          try simp only [Act.put, List.setIfInBounds_toArray, List.set_cons_zero, List.set_cons_succ]
          refine wpAnyT_all (rs := [18]) (by kernel_rfl) (by simp) ?_
          intro ix hix
          simp only [List.mem_cons, List.not_mem_nil, or_false] at hix
          subst hix
          refine wpT_op (o := _) (by rfl) (fun K hK => ?_)
          refine step_append_src (by rfl) _ _ _ (by rfl) w.heap.size 3 i0 _ 1 8 Try.underlying45 hi0 hz0 hz1 hz2 rfl (by omega) v4 (0 + L + 1) ([] ++ ints (ys.take L) ++ [.int .i64 n]) (by rfl) hm4 w.heap.size _ _ _ (ints (ys.drop L)) (by rfl) (HB.out _ _) (ints_one _) (by unfold maxLen; omega) (by omega) hd4.bel.size ?_
          intro v5 w5 hm5 hr5
          obtain ⟨A5, c5, rfl⟩ := hm5.form
          have hd5 := hd4.ran hm4 hr5
          refine hK _ _ (fun _ => hd5.c1) ?_
          clear hK K
          try simp only [Act.put, List.setIfInBounds_toArray, List.set_cons_zero, List.set_cons_succ]
          have hS := hd5.c1
          have f5 := hd5.f1
          refine wpAnyT_take (i := 19) (oi := _) (v := ?_) (by rfl) (by kernel_rfl) (by intro _ _ _ h; exact h) hS (Or.inl ⟨by rfl, ?_⟩) ?_
          rotate_left 1
          · intro w' hS'
            go_simp
            all_goals with_reducible rfl
          simp only [Act.put, List.setIfInBounds_toArray, List.set_cons_zero, List.set_cons_succ]
          refine wpAnyT_take (i := 20) (oi := _) (v := ?_) (by rfl) (by kernel_rfl) (by intro _ _ _ h; exact h) hS (Or.inl ⟨by rfl, ?_⟩) ?_
          rotate_left 1
          · intro w' hS'
            go_simp
            all_goals with_reducible rfl
          simp only [Act.put, List.setIfInBounds_toArray, List.set_cons_zero, List.set_cons_succ]
          refine wpAnyT_all (rs := [21]) (by kernel_rfl) (by simp) ?_
          intro ix hix
          simp only [List.mem_cons, List.not_mem_nil, or_false] at hix
          subst hix
          refine wpT_op (o := _) (by rfl) (fun K hK => ?_)
          try go_simp
          refine hK _ _ (fun h => absurd h (by omega)) ?_
          clear hK K
          refine wpAnyT_done (by kernel_rfl) ?_ _
          have HM5 := Lib.hid hm5
          clear hm5
          go_wp2
          go_ret
          exact ⟨rfl, fin_ok hd5 HHd.out.c1 HL.out hi HI.out (fun h => absurd h (Nat.lt_irrefl _)) HM5.out (by have := HL.out; omega) (by have := HL.out; omega)⟩
end Go.Proofs.Ytndmpdpmfieacaa

namespace Go.Proofs.Ytndmpdpmfieacaa
open Go.RowKit Go.WideShapes Go.ChangeShapes
set_option linter.all false
section
variable {Q o c : Nat} {most n : Int} {A : Option Addr} {ys : List Int} {w w' : World}
set_option maxRecDepth 100000 in
set_option maxHeartbeats 400000 in
theorem rput_out (h : RefP Q o 0 most A c ys w) (hn : n < 0 ∨ most ≤ n) : Calls Try.prog 57 #[.pointer (some ⟨Q, o, none⟩), .int .i64 n] w fun e w' => e = .returned (.bool false) ∧ w' = w := by
  have h0 := h.c0
  have H : Hid (n < 0 ∨ most ≤ n) := hn
  clear h hn
  go_enter Try.func57, Try.ntmps57
  go_wp2
  all_goals first
    | (exfalso; have := H.out; omega)
    | (go_ret; exact ⟨rfl, rfl⟩)
theorem sorted_le {ys : List Int} (h : ys.Pairwise (· < ·)) {i p : Nat} (hip : i ≤ p) (hp : p < ys.length) : ys.getD i 0 ≤ ys.getD p 0 := by
  have e1 : ys.getD i 0 = ys[i]'(by omega) := by rw [List.getD_eq_getElem?_getD, List.getElem?_eq_getElem (by omega)]; rfl
  have e2 : ys.getD p 0 = ys[p] := by rw [List.getD_eq_getElem?_getD, List.getElem?_eq_getElem hp]; rfl
  rw [e1, e2]
  rcases Nat.lt_or_ge i p with h' | h'
  · exact Int.le_of_lt (List.pairwise_iff_getElem.1 h i p (by omega) hp h')
  · obtain rfl : i = p := by omega
    exact Int.le_refl _
set_option maxRecDepth 100000 in
set_option maxHeartbeats 800000 in
theorem rput_no (h : RefP Q o 0 most A c ys w) (hlen : ys.length < 900000) (h0 : 0 ≤ n) (h9 : n < most) (hs : ys.Pairwise (· < ·)) (hm : n ∈ ys) :
    Calls Try.prog 57 #[.pointer (some ⟨Q, o, none⟩), .int .i64 n] w fun e w' => e = .returned (.bool false) ∧ w' = w := by
  have hc0 := h.c0
  have h1 := h.c1
  have hcap := h.cap
  have hrd := h.rd
  have hn1 : ¬ n < 0 := by omega
  have hn2 : ¬ (n ≥ most) := by omega
  obtain ⟨p, hp, hpn⟩ := List.mem_iff_getElem.1 hm
  have hpn' : ys.getD p 0 = n := by rw [List.getD_eq_getElem?_getD, List.getElem?_eq_getElem hp]; exact hpn
  have HS := Lib.hid hs
  have HP := Lib.hid hpn'
  clear hpn hpn' hm
  generalize hL : ys.length = L at *
  have HL := Lib.hid hL
  clear hL h hs
  go_enter Try.func57, Try.ntmps57
  go_wp2
  go_loop [5] (fun j => ∃ i : Nat, i ≤ L ∧ j = .int .i64 i ∧ Hid (∀ m, m < i → ys.getD m 0 < n)) (fun j => L - (intOf j).toNat)
  case atStart => exact ⟨0, by omega, rfl, Lib.hid (by omega)⟩
  case round =>
    obtain ⟨i, hi, rfl, HI⟩ := hrel
    have hip : i ≤ p := by
      rcases Nat.lt_or_ge p i with h | h
      · have := HI.out p h; rw [HP.out] at this; omega
      · exact h
    have hlt : i < L := by omega
    obtain ⟨ad, u, rfl, hb, hu, hc⟩ := hrd.at_ hlt
    rw [ints_at ys i (by rw [HL.out]; exact hlt)] at hu
    injection hu with hu
    rw [← hu] at hc
    clear hu
    have hle := sorted_le HS.out hip (by rw [HL.out]; exact hp)
    rw [HP.out] at hle
    generalize hy : ys.getD i 0 = y at *
    have HY := Lib.hid hy
    clear hy
    by_cases hyn : y < n
    · go_wp2
      go_round
      case rel => exact ⟨i + 1, by omega, by go_num, Lib.hid (below_next HI.out (by rw [HY.out]; exact hyn))⟩
      case measure => simp only [intOf]; omega
    · obtain rfl : y = n := by omega
      go_wp2
      go_ret
      exact ⟨rfl, rfl⟩
end
/-- What a Put made of the document's pool. -/
theorem PutOk.refp {Q o c : Nat} {most n : Int} {A : Option Addr} {ys : List Int} {w w' : World} (h : RefP Q o 0 most A c ys w) (hp : PutOk Q o w n ys w') :
    ∃ i A' c', i ≤ ys.length ∧ (∀ m, m < i → ys.getD m 0 < n) ∧ (i < ys.length → n < ys.getD i 0) ∧ RefP Q o 0 most A' c' (insF ys n i) w' ∧ KeptR Q o w w' ∧ c' ≤ maxLen ∧ (∀ ad, A' = some ad → w.heap.size ≤ ad.block) := by
  obtain ⟨i, w5, A5, c5, hi, hb, ha, hbel, hcq, hm, rfl⟩ := hp
  have lQ := World.block_lt_of_cell? _ _ h.c0
  have lQ' : Q < w.heap.size := lQ
  have hl : (insF ys n i).length = ys.length + 1 := by unfold insF; simp; omega
  have hfar : ∀ ad, A5 = some ad → w.heap.size ≤ ad.block := fun ad e => by subst e; exact (hm.lt _ rfl).1
  have hcap : ys.length + 1 ≤ c5 ∧ c5 ≤ maxLen := by
    rcases hm.2 with ⟨h', h0⟩ | ⟨g, off, cap, cur, h', _, _, a, b, _⟩
    · omega
    · simp only [Value.slice.injEq, true_and] at h'
      obtain ⟨_, rfl⟩ := h'
      exact ⟨a, b⟩
  refine ⟨i, A5, c5, hi, hb, ha, ⟨?_, ?_, ?_, ?_, ?_, ?_⟩, ⟨hbel.os, hbel.tape, hbel.output, by simpa using hbel.size, fun b hbl hbq => (Below.heap_setCell _ _ _ _ hbq).trans (hbel.block b hbl), fun i hi => (World.cell?_setCell_other _ _ _ _ (by first | (simp [hi, Ne.symm hi]; done) | (simp; omega))).trans (hbel.cell (p := ⟨Q, i, none⟩) lQ'), fun i => by rw [World.frozen?_setCell]; exact hbel.frozen (p := ⟨Q, i, none⟩) lQ'⟩, hcap.2, hfar⟩
  · exact (World.cell?_setCell_other _ _ _ _ (by simp)).trans ((hbel.cell (p := ⟨Q, o, none⟩) lQ').trans h.c0)
  · rw [hl]; exact World.cell?_setCell_same _ _ _ (hcq.trans h.c1)
  · rw [World.frozen?_setCell]; exact (hbel.frozen (p := ⟨Q, o + 1, none⟩) lQ').trans h.f1
  · rw [hl]
    refine ⟨by rw [ints_len, hl]; omega, fun hn => ?_⟩
    rcases hm.2 with ⟨h', h0⟩ | ⟨g, off, cap, cur, h', hge, hh, _⟩
    · omega
    · simp only [Value.slice.injEq, true_and] at h'
      obtain ⟨rfl, rfl⟩ := h'
      have hgl := (hm.lt g rfl).2
      refine ⟨_, rfl, by simpa using hgl, fun j u hu => ?_⟩
      rw [Addr.add_lit]
      exact (World.cell?_setCell_far _ _ _ _ (by show Q ≠ g; omega)).trans (hm.cells j u hu)
  · rw [hl]; exact hcap.1
  · intro ad e; have := hfar ad e; omega
theorem insF_mem {ys : List Int} {n : Int} {i : Nat} (z : Int) : z ∈ insF ys n i ↔ z = n ∨ z ∈ ys := by
  unfold insF
  rw [List.mem_append, List.mem_append, List.mem_singleton]
  constructor
  · rintro ((h | h) | h)
    · exact .inr (List.mem_of_mem_take h)
    · exact .inl h
    · exact .inr (List.mem_of_mem_drop h)
  · rintro (h | h)
    · exact .inl (.inr h)
    · rw [← List.take_append_drop i ys, List.mem_append] at h
      rcases h with h | h
      · exact .inl (.inl h)
      · exact .inr h
theorem insF_sorted {ys : List Int} {n : Int} {i : Nat} (hs : ys.Pairwise (· < ·)) (hi : i ≤ ys.length) (hb : ∀ m, m < i → ys.getD m 0 < n) (ha : i < ys.length → n < ys.getD i 0) : (insF ys n i).Pairwise (· < ·) := by
  have h1 : ∀ z ∈ ys.take i, z < n := fun z hz => by
    obtain ⟨m, hm, rfl⟩ := List.mem_iff_getElem.1 hz
    have hm' : m < i := by simp at hm; omega
    have := hb m hm'
    rw [List.getD_eq_getElem?_getD, List.getElem?_eq_getElem (by omega)] at this
    simpa using this
  have h2 : ∀ z ∈ ys.drop i, n < z := fun z hz => by
    obtain ⟨m, hm, rfl⟩ := List.mem_iff_getElem.1 hz
    have hm' : i + m < ys.length := by simp at hm; omega
    have h3 := ha (by omega)
    have h4 := sorted_le hs (i := i) (p := i + m) (by omega) hm'
    rw [List.getD_eq_getElem?_getD (i := i + m), List.getElem?_eq_getElem hm'] at h4
    have h5 : n < ys[i + m] := by simp only [Option.getD_some] at h4; omega
    simpa using h5
  unfold insF
  rw [List.pairwise_append, List.pairwise_append]
  refine ⟨⟨hs.sublist (List.take_sublist _ _), List.pairwise_singleton _ _, fun a hxa b hxb => by rw [List.mem_singleton] at hxb; rw [hxb]; exact h1 a hxa⟩, hs.sublist (List.drop_sublist _ _), fun a hxa b hxb => ?_⟩
  rcases List.mem_append.1 hxa with h | h
  · have := h1 a h; have := h2 b hxb; omega
  · rw [List.mem_singleton] at h; rw [h]; exact h2 b hxb
/-- The same numbers, in their order. -/
structure Rel (ys xs : List Int) : Prop where
  srt : ys.Pairwise (· < ·)
  mem : ∀ z, z ∈ ys ↔ z ∈ xs
section
variable {xs ys : List Int}
theorem Rel.len (r : Rel ys xs) (hx : xs.Nodup) : ys.length = xs.length := by
  have hy : ys.Nodup := r.srt.imp fun hlt => by intro e; omega
  exact ((List.perm_ext_iff_of_nodup hy hx).2 r.mem).length_eq
theorem Rel.put {n : Int} (r : Rel ys xs) {ys' : List Int} (hs : ys'.Pairwise (· < ·)) (hm : ∀ z, z ∈ ys' ↔ z = n ∨ z ∈ ys) : Rel ys' (pushF xs n) :=
  ⟨hs, fun z => by rw [hm, (pushF_perm xs n).mem_iff, List.mem_cons, r.mem]⟩
theorem Rel.nil (r : Rel ys []) : ys = [] := by
  cases ys with
  | nil => rfl
  | cons y l => exact absurd ((r.mem y).1 (List.mem_cons_self)) (by simp)
/-- The least of both. -/
theorem Rel.cons (r : Rel ys xs) (hx : xs ≠ []) (hh : Heaped xs xs.length) (hd : xs.Nodup) : ∃ ys', ys = xs.getD 0 0 :: ys' ∧ Rel ys' (popF xs) := by
  have hp := List.length_pos_iff.2 hx
  have hm0 := getD_mem' xs 0 hp
  have hle := least_mem hh
  cases ys with
  | nil => exact absurd ((r.mem _).2 hm0) (by simp)
  | cons y l =>
    have hs := List.pairwise_cons.1 r.srt
    have hy : y ∈ xs := (r.mem y).1 (List.mem_cons_self)
    have h1 := hle y hy
    have h2 : y ≤ xs.getD 0 0 := by
      rcases List.mem_cons.1 ((r.mem _).2 hm0) with h | h
      · omega
      · have := hs.1 _ h; omega
    have e : y = xs.getD 0 0 := by omega
    refine ⟨l, by rw [e], hs.2, fun z => ?_⟩
    rw [popF_mem xs hx hd]
    constructor
    · intro hz
      refine ⟨(r.mem z).1 (List.mem_cons_of_mem _ hz), fun e' => ?_⟩
      have := hs.1 z hz
      omega
    · rintro ⟨h3, h4⟩
      rcases List.mem_cons.1 ((r.mem z).2 h3) with h | h
      · exact absurd (h.trans e) h4
      · exact h
end
end Go.Proofs.Ytndmpdpmfieacaa

namespace Go.Proofs.Ytndmpdpmfieacaa
open Go.RowKit Go.WideShapes Go.ChangeShapes
set_option linter.all false
attribute [local go_sem ↓] Go.wp_at_zero Go.wp_at_succ
theorem rsize_in (c : Nat) (hc : c < 5) (w : World) : Calls Try.prog 32 #[.int .i64 (c : Nat)] w fun e w' => e = .returned (.int .i64 (szN c : Nat)) ∧ w' = w := by
  have h : c = 0 ∨ c = 1 ∨ c = 2 ∨ c = 3 ∨ c = 4 := by omega
  rcases h with rfl | rfl | rfl | rfl | rfl
  all_goals
    go_enter Try.func32, Try.ntmps32
    go_wp2
    go_ret
    exact ⟨rfl, rfl⟩
theorem rsize_out (c : Int) (hc : c < 0 ∨ 5 ≤ c) (w : World) : Calls Try.prog 32 #[.int .i64 c] w fun e w' => e = .returned (.int .i64 0) ∧ w' = w := by
  have h0 : (c == 0) = false := by simp; omega
  have h1 : (c == 1) = false := by simp; omega
  have h2 : (c == 2) = false := by simp; omega
  have h3 : (c == 3) = false := by simp; omega
  have h4 : (c == 4) = false := by simp; omega
  clear hc
  go_enter Try.func32, Try.ntmps32
  go_wp2
  go_ret
  exact ⟨rfl, rfl⟩
set_option maxRecDepth 100000 in
set_option maxHeartbeats 800000 in
/-- A row of a class's words, each of them poison. -/
theorem rpoison_any (c : Nat) (hc : c < 5) (w : World) : Calls Try.prog 58 #[.int .i64 (c : Nat)] w fun e w' => ∃ b, e = .returned (.slice (some ⟨b, 0, none⟩) (szN c) (szN c)) ∧ w'.heap[b]? = some (.cells (List.replicate (szN c) (Value.int .u64 poisonV)).toArray 35 (0, 0)) ∧ w.heap.size ≤ b ∧ Below w.heap.size w w' := by
  have hle := szN_le c
  have hs := fun W => rsize_in c hc W
  generalize szN c = n at *
  have HS := Lib.hid hs
  have hmk := fun w => run_make_row' (P := Try.prog) 30 35 (.int .u64 0) 8 Try.underlying30 info35b rfl .i64 .i64 n (by omega) (by omega) w
  obtain ⟨W0, hW0⟩ : ∃ W0, W0 = w.alloc (.cells (madeCells #[.int .u64 0] n) 35) := ⟨_, rfl⟩
  have hb : W0.heap[w.heap.size]? = some (.cells ((madeCells #[Value.int .u64 0] n).toList).toArray 35 (0, 0)) := by rw [hW0]; simpa using heap_alloc_new w (.cells (madeCells #[.int .u64 0] n) 35)
  have HP0 : Hid (PoI W0 w.heap.size n 0 (madeCells #[Value.int .u64 0] n).toList W0) := Lib.hid ⟨by simpa using hb, World.grownBy.refl _ _⟩
  have HL := Lib.hid (made_len n)
  have HW0 := Lib.hid hW0
  clear hs hW0 hb
  go_enter Try.func58, Try.ntmps58
  go_upto_region 2 with (first
    | (go_at_call 32; refine (HS.out _).mono ?_; rintro e w9 ⟨rfl, hh⟩; replace hh := hh.symm; subst hh)
    | fail)
  rw [← HW0.out]
  go_wp2
  go_loopw [10] (fun i W => ∃ k : Nat, i = .int .i64 k ∧ k ≤ n ∧ Hid (PoI W0 w.heap.size n k (madeCells #[Value.int .u64 0] n).toList W)) (fun i _ => n - (intOf i).toNat)
  case atStart => exact ⟨0, rfl, Nat.zero_le _, HP0⟩
  case round =>
    obtain ⟨k, rfl, hk, HP⟩ := hrel
    have k0 : (0 : Int) ≤ k := by omega
    by_cases hkn : k < n
    · have k1 : (k : Int) < n := by omega
      have ck : wr.cell? ⟨w.heap.size, k, none⟩ = some ((madeCells #[Value.int .u64 0] n).toList[k]'(by rw [HL.out]; exact hkn)) := by
        rw [cell_of HP.out.1]
        simp
        rw [List.getElem?_append_right (by simp)]
        simp
      have fk := frozen_of HP.out.1 k
      go_wp2
      go_roundw
      case rel => exact ⟨k + 1, by go_num, by omega, Lib.hid (HP.out.step HL.out hkn)⟩
      case measure => simp only [intOf]; omega
    · obtain rfl : n = k := by omega
      go_wp2
      go_ret
      have hp := HP.out
      have hd : (madeCells #[Value.int .u64 0] n).toList.drop n = [] := List.drop_eq_nil_of_le (by rw [HL.out]; exact Nat.le_refl _)
      refine ⟨w.heap.size, rfl, by rw [hp.1, hd, List.append_nil], Nat.le_refl _, ?_⟩
      have := hp.2
      rw [HW0.out] at this
      exact Below.of_grown (w1 := w) this rfl
set_option maxRecDepth 100000 in
set_option maxHeartbeats 800000 in
/-- A row of a class's words: those that are given, and noughts. -/
theorem rfill_any (c : Nat) (hc : c < 5) {m cc M : Nat} {A : Option Addr} {l : List Int} (w : World) (hr : Reads w M 1 A m (wv l)) (hM : M ≤ w.heap.size) (hm : m ≤ szN c) : Calls Try.prog 61 #[.int .i64 (c : Nat), .slice A m cc] w fun e w' => ∃ b, e = .returned (.slice (some ⟨b, 0, none⟩) (szN c) (szN c)) ∧ w'.heap[b]? = some (.cells (wv (fillL (szN c) l)).toArray 35 (0, 0)) ∧ w.heap.size ≤ b ∧ Below w.heap.size w w' := by
  have hle := szN_le c
  have hs := fun W => rsize_in c hc W
  generalize szN c = n at *
  have HS := Lib.hid hs
  have hmk := fun w => run_make_row' (P := Try.prog) 30 35 (.int .u64 0) 8 Try.underlying30 info35b rfl .i64 .i64 n (by omega) (by omega) w
  obtain ⟨W0, hW0⟩ : ∃ W0, W0 = w.alloc (.cells (madeCells #[.int .u64 0] n) 35) := ⟨_, rfl⟩
  obtain ⟨W1, hc1, hb1, hg1⟩ := copy_ex 3 w.heap.size n m cc M A l (madeCells #[.int .u64 0] n).toList W0 (by rw [hW0]; simpa using heap_alloc_new w (.cells (madeCells #[.int .u64 0] n) 35)) (made_len n)
    (by rw [hW0]; exact (hr.below ((below_alloc w _).mono hM))) hm
  have hlm : l.length = m := by have := hr.1; rw [wv_len] at this; omega
  rw [hW0] at hg1 hc1
  have HG := Lib.hid (Below.of_grown (w1 := w) hg1 rfl)
  have HB := Lib.hid hb1
  have HD : Hid (wv l ++ (madeCells #[Value.int .u64 0] n).toList.drop m = wv (fillL n l)) := Lib.hid (by
    unfold wv fillL
    rw [List.map_append, hlm]
    congr 1
    have hz := zeros_k .u64 n
    rw [Nat.mul_one] at hz
    have hz2 : (madeCells #[Value.int .u64 0] n).toList = List.map (Value.int .u64) (List.replicate n 0) := hz
    rw [hz2, ← List.map_drop, List.drop_replicate])
  clear hs hW0 hb1 hg1 hr hlm
  go_enter Try.func61, Try.ntmps61
  go_wp2_with (first
    | (go_at_call 32; refine (HS.out _).mono ?_; rintro e w9 ⟨rfl, hh⟩; replace hh := hh.symm; subst hh)
    | fail)
  go_ret
  exact ⟨_, rfl, by rw [HB.out, HD.out], Nat.le_refl _, HG.out⟩
end Go.Proofs.Ytndmpdpmfieacaa

namespace Go.Proofs.Ytndmpdpmfieacaa
open Go.RowKit Go.WideShapes Go.ChangeShapes
set_option linter.all false
/-- The reference's slots in the row at T. -/
structure RRow (w : World) (T o : Nat) (sl : List Sl) : Prop where
  r0 : ∀ i, i < sl.length → w.cell? ⟨T, o + i * 4, none⟩ = some (.int .i64 ((sl.getD i dS).cls : Nat))
  r1 : ∀ i, i < sl.length → w.cell? ⟨T, o + i * 4 + 1, none⟩ = some (.int .i64 ((sl.getD i dS).gen : Nat))
  r2 : ∀ i, i < sl.length → w.cell? ⟨T, o + i * 4 + 2, none⟩ = some (.bool (sl.getD i dS).live)
  r3 : ∀ i, i < sl.length → w.cell? ⟨T, o + i * 4 + 3, none⟩ = some (.slice (some ⟨(sl.getD i dS).blk, 0, none⟩) (szN (sl.getD i dS).cls) (szN (sl.getD i dS).cls))
  fr : ∀ i, i < sl.length → ∀ j, w.frozen? ⟨T, j, none⟩ = false
section
variable {Q T o cp : Nat} {A : Option Addr} {sl : List Sl} {w : World}
set_option maxRecDepth 100000 in
set_option maxHeartbeats 1600000 in
theorem rat_no (c0 : w.cell? ⟨Q, 0, none⟩ = some (.slice A sl.length cp)) (hA : 0 < sl.length → A = some ⟨T, o, none⟩) (hr : RRow w T o sl) (hn : sl.length ≤ 1024) {r : Int} {z : Nat} (hw : Why sl r z) :
    Calls Try.prog 59 #[.pointer (some ⟨Q, 0, none⟩), .int .i64 r] w fun e w' => e = .returned (.tuple #[.int .i64 0, .int .i64 (z : Nat)]) ∧ w' = w := by
  have HR := Lib.hid hr
  clear hr
  cases hw with
  | bad hg =>
    clear hA
    go_enter Try.func59, Try.ntmps59
    go_wp2_with (first
      | (go_at_call 79; refine (rparts_bad r hg w).mono ?_; rintro e w' ⟨rfl, rfl⟩)
      | fail)
    go_ret2
    exact ⟨rfl, rfl⟩
  | far hg hf =>
    clear hA
    go_enter Try.func59, Try.ntmps59
    go_wp2_with (first
      | (go_at_call 79; refine (rparts_good r hg w).mono ?_; rintro e w' ⟨rfl, rfl⟩)
      | fail)
    go_ret2
    exact ⟨rfl, rfl⟩
  | leaf i hg hi he hl =>
    have hA1 := hA (by omega)
    subst hA1
    clear hA
    have c1 := HR.out.r0 i hi
    have i0 : (0 : Int) ≤ i := by omega
    have i1 : (i : Int) < sl.length := by omega
    have i2 : ¬ ((i : Int) ≥ sl.length) := by omega
    generalize ((sl.getD i dS).cls : Int) = kl at *
    generalize sl.length = n at *
    have HE := Lib.hid he
    have HL := Lib.hid hl
    clear he hl
    go_enter Try.func59, Try.ntmps59
    go_wp2_with (first
      | (go_at_call 79; refine (rparts_good r hg w).mono ?_; rw [HE.out, HL.out]; rintro e w' ⟨rfl, rfl⟩)
      | fail)
    go_ret2
    exact ⟨rfl, rfl⟩
  | gen i hg hi he hl hgn =>
    have hA1 := hA (by omega)
    subst hA1
    clear hA
    have c1 := HR.out.r0 i hi
    have c2 := HR.out.r1 i hi
    have i0 : (0 : Int) ≤ i := by omega
    have i1 : (i : Int) < sl.length := by omega
    have i2 : ¬ ((i : Int) ≥ sl.length) := by omega
    generalize ((sl.getD i dS).cls : Int) = kl at *
    generalize ((sl.getD i dS).gen : Int) = g at *
    generalize sl.length = n at *
    have HE := Lib.hid he
    have HL := Lib.hid hl
    clear he hl
    obtain ⟨gv, hgv⟩ : ∃ gv, genV r = gv := ⟨_, rfl⟩
    rw [hgv] at hgn
    have HV := Lib.hid hgv
    clear hgv
    have hgg : (g != gv) = true := by simpa using (fun e => hgn e.symm)
    go_enter Try.func59, Try.ntmps59
    go_wp2_with (first
      | (go_at_call 79; refine (rparts_good r hg w).mono ?_; rw [HE.out, HL.out, HV.out]; rintro e w' ⟨rfl, rfl⟩)
      | fail)
    go_ret2
    exact ⟨rfl, rfl⟩
  | free i hg hi he hl hgn hv =>
    have hA1 := hA (by omega)
    subst hA1
    clear hA
    have c1 := HR.out.r0 i hi
    have c2 := HR.out.r1 i hi
    have c3 := HR.out.r2 i hi
    rw [hv] at c3
    have i0 : (0 : Int) ≤ i := by omega
    have i1 : (i : Int) < sl.length := by omega
    have i2 : ¬ ((i : Int) ≥ sl.length) := by omega
    generalize ((sl.getD i dS).cls : Int) = kl at *
    generalize ((sl.getD i dS).gen : Int) = g at *
    generalize sl.length = n at *
    have HE := Lib.hid he
    have HL := Lib.hid hl
    clear he hl
    have HV := Lib.hid hgn
    clear hgn hv
    go_enter Try.func59, Try.ntmps59
    go_wp2_with (first
      | (go_at_call 79; refine (rparts_good r hg w).mono ?_; rw [HE.out, HL.out, HV.out]; rintro e w' ⟨rfl, rfl⟩)
      | fail)
    go_ret2
    exact ⟨rfl, rfl⟩
set_option maxRecDepth 100000 in
set_option maxHeartbeats 1600000 in
theorem rat_ok (c0 : w.cell? ⟨Q, 0, none⟩ = some (.slice A sl.length cp)) (hA : 0 < sl.length → A = some ⟨T, o, none⟩) (hr : RRow w T o sl) (hn : sl.length ≤ 1024) {r : Int} {i : Nat} (hw : Live sl r i) :
    Calls Try.prog 59 #[.pointer (some ⟨Q, 0, none⟩), .int .i64 r] w fun e w' => e = .returned (.tuple #[.int .i64 (i : Nat), .int .i64 0]) ∧ w' = w := by
  have HR := Lib.hid hr
  clear hr
  obtain ⟨hg, hi, he, hl, hgn, hv⟩ := hw
  have hA1 := hA (by omega)
  subst hA1
  clear hA
  have c1 := HR.out.r0 i hi
  have c2 := HR.out.r1 i hi
  have c3 := HR.out.r2 i hi
  rw [hv] at c3
  have i0 : (0 : Int) ≤ i := by omega
  have i1 : (i : Int) < sl.length := by omega
  have i2 : ¬ ((i : Int) ≥ sl.length) := by omega
  generalize ((sl.getD i dS).cls : Int) = kl at *
  generalize ((sl.getD i dS).gen : Int) = g at *
  generalize sl.length = n at *
  have HE := Lib.hid he
  have HL := Lib.hid hl
  have HV := Lib.hid hgn
  clear he hl hgn hv
  go_enter Try.func59, Try.ntmps59
  go_wp2_with (first
    | (go_at_call 79; refine (rparts_good r hg w).mono ?_; rw [HE.out, HL.out, HV.out]; rintro e w' ⟨rfl, rfl⟩)
    | fail)
  go_ret2
  exact ⟨rfl, rfl⟩
end
end Go.Proofs.Ytndmpdpmfieacaa

namespace Go.Proofs.Ytndmpdpmfieacaa
open Go.RowKit Go.WideShapes Go.ChangeShapes
set_option linter.all false
section
variable {P : Program} {w : World}
theorem wpList_append_src {ops : Array Oper} {rest : List Oper} {o : Oper} {a : Act} {Q : Exit → Act → World → Prop} (hg : o.guard = none) (s x : Operand) (t : TypeId)
    (ho : o.op = .call { callee := .builtin .append, args := #[s, x], argTypes := #[t, t] })
    (base : Nat) (e : TypeId) (i : TypeInfo) (z : Value) (size bytes : Nat) (ht : P.underlying t = some (.slice e)) (hi : P.info? e = some i) (hz : i.zero = some z)
    (hsize : i.size = size) (hby : i.bytes = bytes) (hzs : z.cells.size = size) (hsz : 0 < size) (v : Value) (n : Nat) (xs : List Value) (hs : a.eval s = v) (h : Mid w base e size v n xs)
    (B : Nat) (A : Option Addr) (m c : Nat) (news : List Value) (hx : a.eval x = .slice A m c) (hr : Reads w B size A m news) (h1 : ∀ u ∈ news, u.oneCell' = true)
    (h63 : n + m ≤ maxLen) (hbytes : (n + m) * bytes ≤ 140737488355328) (hbase : base ≤ w.heap.size)
    (hK : ∀ v' w', Mid w' base e size v' (n + m) (xs ++ news) → Ran v v' w w' → wpList P ops Q rest (a.put o.dst v') w') : wpList P ops Q (o :: rest) a w :=
  wpList_plain hg fun K hK' => by
    obtain ⟨v', w', hrun, h2, h3⟩ := run_append_src (P := P) o.type e t i z bytes ht hi hz hsize hby hzs hsz h B A m c news hr h1 h63 hbytes hbase
    unfold Oper.wp execOp
    simp only [ho, resolve, invoke, builtin, Sem.run_bind, Sem.run_pure, Result.andThen_ok, List.map_toArray, List.map_cons, List.map_nil, hs, hx, hrun]
    exact hK' _ _ (hK v' w' h2 h3)
end
/-- The reference's arena at Q, its slots in the row at T; k numbers at most. -/
structure RA (Q T o cp k : Nat) (A : Option Addr) (sl : List Sl) (ys : Nat → List Int) (PA : Nat → Option Addr) (PC : Nat → Nat) (w : World) : Prop where
  c0 : w.cell? ⟨Q, 0, none⟩ = some (.slice A sl.length cp)
  hA : 0 < sl.length → A = some ⟨T, o, none⟩
  row : RRow w T o sl
  wds : ∀ i, i < sl.length → w.heap[(sl.getD i dS).blk]? = some (.cells (wv (sl.getD i dS).ws).toArray 35 (0, 0)) ∧ (sl.getD i dS).ws.length = szN (sl.getD i dS).cls ∧ (sl.getD i dS).cls < 5
  pl : ∀ c, c < 5 → RefP Q (1 + c * 2) 0 k (PA c) (PC c) (ys c) w
  len : sl.length ≤ 1024
  qt : Q ≠ T
  wt : ∀ i, i < sl.length → (sl.getD i dS).blk ≠ T ∧ (sl.getD i dS).blk ≠ Q
  pt : ∀ c, c < 5 → ∀ ad, PA c = some ad → ad.block ≠ T
  tl : 0 < sl.length → T < w.heap.size
  ql : Q < w.heap.size
  pcm : ∀ c, c < 5 → PC c ≤ maxLen
  yl : ∀ c, c < 5 → (ys c).length ≤ 1024
  pb : ∀ c, c < 5 → ∀ ad, PA c = some ad → ad.block < w.heap.size
theorem RefP.on {Q o B c : Nat} {most : Int} {A : Option Addr} {ys : List Int} {w w' : World} (h : RefP Q o B most A c ys w) (hb : Below w.heap.size w w') : RefP Q o B most A c ys w' :=
  ⟨(hb.cell (World.block_lt_of_cell? _ _ h.c0)).trans h.c0, (hb.cell (World.block_lt_of_cell? _ _ h.c1)).trans h.c1, (hb.frozen (World.block_lt_of_cell? _ _ h.c1)).trans h.f1, (h.rd.below hb).more hb.size, h.cap, h.far⟩
theorem RefP.set_far {Q o B c : Nat} {most : Int} {A : Option Addr} {ys : List Int} {w : World} (h : RefP Q o B most A c ys w) {a : Addr} (h1 : Q ≠ a.block) (h2 : ∀ ad, A = some ad → ad.block ≠ a.block) (u : Value) : RefP Q o B most A c ys (w.setCell a u) :=
  ⟨(World.cell?_setCell_far _ _ _ _ (Ne.symm h1)).trans h.c0, (World.cell?_setCell_far _ _ _ _ (Ne.symm h1)).trans h.c1, by rw [World.frozen?_setCell]; exact h.f1, ⟨h.rd.1, fun hn => by
    obtain ⟨ad, e, hl, hc⟩ := h.rd.2 hn
    exact ⟨ad, e, by simpa using hl, fun j u' hu => (World.cell?_setCell_far _ _ _ _ (by rw [block_of_add]; exact Ne.symm (h2 ad e))).trans (hc j u' hu)⟩⟩, h.cap, h.far⟩
theorem RRow.on {w w' : World} {T o : Nat} {sl : List Sl} (h : RRow w T o sl) (hf : 0 < sl.length → T < w.heap.size) (hb : Below w.heap.size w w') : RRow w' T o sl :=
  ⟨fun i hi => (hb.cell (p := ⟨T, o + i * 4, none⟩) (hf (by omega))).trans (h.r0 i hi), fun i hi => (hb.cell (p := ⟨T, o + i * 4 + 1, none⟩) (hf (by omega))).trans (h.r1 i hi), fun i hi => (hb.cell (p := ⟨T, o + i * 4 + 2, none⟩) (hf (by omega))).trans (h.r2 i hi), fun i hi => (hb.cell (p := ⟨T, o + i * 4 + 3, none⟩) (hf (by omega))).trans (h.r3 i hi), fun i hi j => (hb.frozen (p := ⟨T, j, none⟩) (hf (by omega))).trans (h.fr i hi j)⟩
theorem ne_at {T x y : Nat} (h : x ≠ y) : (⟨T, x, none⟩ : Addr) ≠ ⟨T, y, none⟩ := by simp [h]
/-- New words in a slot. -/
theorem RRow.setWs {w : World} {T o i b : Nat} {sl : List Sl} (h : RRow w T o sl) (hi : i < sl.length) (l : List Int) :
    RRow (w.setCell ⟨T, o + i * 4 + 3, none⟩ (.slice (some ⟨b, 0, none⟩) (szN (sl.getD i dS).cls) (szN (sl.getD i dS).cls))) T o (sl.set i { sl.getD i dS with blk := b, ws := l }) := by
  have key : ∀ j, ((sl.set i { sl.getD i dS with blk := b, ws := l }).getD j dS).cls = (sl.getD j dS).cls ∧ ((sl.set i { sl.getD i dS with blk := b, ws := l }).getD j dS).gen = (sl.getD j dS).gen ∧ ((sl.set i { sl.getD i dS with blk := b, ws := l }).getD j dS).live = (sl.getD j dS).live := fun j => by
    rw [getD_set hi]; split
    · rename_i e; subst e; exact ⟨rfl, rfl, rfl⟩
    · exact ⟨rfl, rfl, rfl⟩
  have oth : ∀ x, x ≠ o + i * 4 + 3 → ∀ u, (w.setCell ⟨T, o + i * 4 + 3, none⟩ u).cell? ⟨T, x, none⟩ = w.cell? ⟨T, x, none⟩ := fun x hx u => World.cell?_setCell_other _ _ _ _ (ne_at (Ne.symm hx))
  refine ⟨fun j hj => ?_, fun j hj => ?_, fun j hj => ?_, fun j hj => ?_, fun j hj x => by rw [World.frozen?_setCell]; rw [List.length_set] at hj; exact h.fr j hj x⟩
  · rw [List.length_set] at hj
    rw [(key j).1, oth _ (by omega)]; exact h.r0 j hj
  · rw [List.length_set] at hj
    rw [(key j).2.1, oth _ (by omega)]; exact h.r1 j hj
  · rw [List.length_set] at hj
    rw [(key j).2.2, oth _ (by omega)]; exact h.r2 j hj
  · rw [List.length_set] at hj
    by_cases e : j = i
    · subst e
      rw [getD_set hi, if_pos rfl]
      exact World.cell?_setCell_same _ _ _ (h.r3 j hj)
    · rw [getD_set hi, if_neg e, oth _ (by omega)]; exact h.r3 j hj
theorem RRow.setLive {w : World} {T o i : Nat} {sl : List Sl} (h : RRow w T o sl) (hi : i < sl.length) (x : Bool) :
    RRow (w.setCell ⟨T, o + i * 4 + 2, none⟩ (.bool x)) T o (sl.set i { sl.getD i dS with live := x }) := by
  have oth : ∀ y, y ≠ o + i * 4 + 2 → ∀ u, (w.setCell ⟨T, o + i * 4 + 2, none⟩ u).cell? ⟨T, y, none⟩ = w.cell? ⟨T, y, none⟩ := fun y hy u => World.cell?_setCell_other _ _ _ _ (ne_at (Ne.symm hy))
  have key : ∀ j, j ≠ i → (sl.set i { sl.getD i dS with live := x }).getD j dS = sl.getD j dS := fun j hj => by rw [getD_set hi, if_neg hj]
  have kei : (sl.set i { sl.getD i dS with live := x }).getD i dS = { sl.getD i dS with live := x } := by rw [getD_set hi, if_pos rfl]
  refine ⟨fun j hj => ?_, fun j hj => ?_, fun j hj => ?_, fun j hj => ?_, fun j hj y => by rw [World.frozen?_setCell]; rw [List.length_set] at hj; exact h.fr j hj y⟩
  · rw [List.length_set] at hj
    by_cases e : j = i
    · subst e
      rw [kei]
      rw [oth _ (by omega)]; exact h.r0 j hj
    · rw [key j e, oth _ (by omega)]; exact h.r0 j hj
  · rw [List.length_set] at hj
    by_cases e : j = i
    · subst e
      rw [kei]
      rw [oth _ (by omega)]; exact h.r1 j hj
    · rw [key j e, oth _ (by omega)]; exact h.r1 j hj
  · rw [List.length_set] at hj
    by_cases e : j = i
    · subst e
      rw [kei]
      exact World.cell?_setCell_same _ _ _ (h.r2 j hj)
    · rw [key j e, oth _ (by omega)]; exact h.r2 j hj
  · rw [List.length_set] at hj
    by_cases e : j = i
    · subst e
      rw [kei]
      rw [oth _ (by omega)]; exact h.r3 j hj
    · rw [key j e, oth _ (by omega)]; exact h.r3 j hj
theorem RRow.setGen {w : World} {T o i : Nat} {sl : List Sl} (h : RRow w T o sl) (hi : i < sl.length) (x : Nat) :
    RRow (w.setCell ⟨T, o + i * 4 + 1, none⟩ (.int .i64 (x : Nat))) T o (sl.set i { sl.getD i dS with gen := x }) := by
  have oth : ∀ y, y ≠ o + i * 4 + 1 → ∀ u, (w.setCell ⟨T, o + i * 4 + 1, none⟩ u).cell? ⟨T, y, none⟩ = w.cell? ⟨T, y, none⟩ := fun y hy u => World.cell?_setCell_other _ _ _ _ (ne_at (Ne.symm hy))
  have key : ∀ j, j ≠ i → (sl.set i { sl.getD i dS with gen := x }).getD j dS = sl.getD j dS := fun j hj => by rw [getD_set hi, if_neg hj]
  have kei : (sl.set i { sl.getD i dS with gen := x }).getD i dS = { sl.getD i dS with gen := x } := by rw [getD_set hi, if_pos rfl]
  refine ⟨fun j hj => ?_, fun j hj => ?_, fun j hj => ?_, fun j hj => ?_, fun j hj y => by rw [World.frozen?_setCell]; rw [List.length_set] at hj; exact h.fr j hj y⟩
  · rw [List.length_set] at hj
    by_cases e : j = i
    · subst e
      rw [kei]
      rw [oth _ (by omega)]; exact h.r0 j hj
    · rw [key j e, oth _ (by omega)]; exact h.r0 j hj
  · rw [List.length_set] at hj
    by_cases e : j = i
    · subst e
      rw [kei]
      exact World.cell?_setCell_same _ _ _ (h.r1 j hj)
    · rw [key j e, oth _ (by omega)]; exact h.r1 j hj
  · rw [List.length_set] at hj
    by_cases e : j = i
    · subst e
      rw [kei]
      rw [oth _ (by omega)]; exact h.r2 j hj
    · rw [key j e, oth _ (by omega)]; exact h.r2 j hj
  · rw [List.length_set] at hj
    by_cases e : j = i
    · subst e
      rw [kei]
      rw [oth _ (by omega)]; exact h.r3 j hj
    · rw [key j e, oth _ (by omega)]; exact h.r3 j hj
theorem RA.setLive {Q T o cp k i : Nat} {A : Option Addr} {sl : List Sl} {ys : Nat → List Int} {PA : Nat → Option Addr} {PC : Nat → Nat} {w : World} (h : RA Q T o cp k A sl ys PA PC w) (hi : i < sl.length) (x : Bool) :
    RA Q T o cp k A (sl.set i { sl.getD i dS with live := x }) ys PA PC (w.setCell ⟨T, o + i * 4 + 2, none⟩ (.bool x)) := by
  have key : ∀ j, ((sl.set i { sl.getD i dS with live := x }).getD j dS).cls = (sl.getD j dS).cls ∧ ((sl.set i { sl.getD i dS with live := x }).getD j dS).blk = (sl.getD j dS).blk ∧ ((sl.set i { sl.getD i dS with live := x }).getD j dS).ws = (sl.getD j dS).ws := fun j => by
    rw [getD_set hi]; split
    · rename_i e; subst e; exact ⟨rfl, rfl, rfl⟩
    · exact ⟨rfl, rfl, rfl⟩
  refine ⟨by rw [List.length_set]; exact (World.cell?_setCell_far _ _ _ _ (by show T ≠ Q; exact Ne.symm h.qt)).trans h.c0, by rw [List.length_set]; exact h.hA, h.row.setLive hi x, fun j hj => ?_, fun c hc => (h.pl c hc).set_far h.qt (h.pt c hc) _, by rw [List.length_set]; exact h.len, h.qt, fun j hj => ?_, h.pt, by rw [List.length_set]; simpa using h.tl, by simpa using h.ql, h.pcm, h.yl, fun c hc ad e => by simpa using h.pb c hc ad e⟩
  · rw [List.length_set] at hj
    rw [(key j).1, (key j).2.1, (key j).2.2]
    exact ⟨(heap_far _ _ _ (h.wt j hj).1).trans (h.wds j hj).1, (h.wds j hj).2⟩
  · rw [List.length_set] at hj
    rw [(key j).2.1]; exact h.wt j hj
theorem RA.setGen {Q T o cp k i : Nat} {A : Option Addr} {sl : List Sl} {ys : Nat → List Int} {PA : Nat → Option Addr} {PC : Nat → Nat} {w : World} (h : RA Q T o cp k A sl ys PA PC w) (hi : i < sl.length) (x : Nat) :
    RA Q T o cp k A (sl.set i { sl.getD i dS with gen := x }) ys PA PC (w.setCell ⟨T, o + i * 4 + 1, none⟩ (.int .i64 (x : Nat))) := by
  have key : ∀ j, ((sl.set i { sl.getD i dS with gen := x }).getD j dS).cls = (sl.getD j dS).cls ∧ ((sl.set i { sl.getD i dS with gen := x }).getD j dS).blk = (sl.getD j dS).blk ∧ ((sl.set i { sl.getD i dS with gen := x }).getD j dS).ws = (sl.getD j dS).ws := fun j => by
    rw [getD_set hi]; split
    · rename_i e; subst e; exact ⟨rfl, rfl, rfl⟩
    · exact ⟨rfl, rfl, rfl⟩
  refine ⟨by rw [List.length_set]; exact (World.cell?_setCell_far _ _ _ _ (by show T ≠ Q; exact Ne.symm h.qt)).trans h.c0, by rw [List.length_set]; exact h.hA, h.row.setGen hi x, fun j hj => ?_, fun c hc => (h.pl c hc).set_far h.qt (h.pt c hc) _, by rw [List.length_set]; exact h.len, h.qt, fun j hj => ?_, h.pt, by rw [List.length_set]; simpa using h.tl, by simpa using h.ql, h.pcm, h.yl, fun c hc ad e => by simpa using h.pb c hc ad e⟩
  · rw [List.length_set] at hj
    rw [(key j).1, (key j).2.1, (key j).2.2]
    exact ⟨(heap_far _ _ _ (h.wt j hj).1).trans (h.wds j hj).1, (h.wds j hj).2⟩
  · rw [List.length_set] at hj
    rw [(key j).2.1]; exact h.wt j hj
theorem RA.on {Q T o cp k : Nat} {A : Option Addr} {sl : List Sl} {ys : Nat → List Int} {PA : Nat → Option Addr} {PC : Nat → Nat} {w w' : World} (h : RA Q T o cp k A sl ys PA PC w) (hb : Below w.heap.size w w') : RA Q T o cp k A sl ys PA PC w' :=
  ⟨(hb.cell (p := ⟨Q, 0, none⟩) h.ql).trans h.c0, h.hA, h.row.on h.tl hb, fun i hi => ⟨(hb.block _ (lt_of_heap (h.wds i hi).1)).trans (h.wds i hi).1, (h.wds i hi).2⟩, fun c hc => (h.pl c hc).on hb, h.len, h.qt, h.wt, h.pt, fun hl => Nat.lt_of_lt_of_le (h.tl hl) hb.size, Nat.lt_of_lt_of_le h.ql hb.size, h.pcm, h.yl, fun c hc ad e => Nat.lt_of_lt_of_le (h.pb c hc ad e) hb.size⟩
theorem RA.setWs {Q T o cp k i b : Nat} {A : Option Addr} {sl : List Sl} {ys : Nat → List Int} {PA : Nat → Option Addr} {PC : Nat → Nat} {w : World} (h : RA Q T o cp k A sl ys PA PC w) (hi : i < sl.length) {l : List Int} (hl : l.length = szN (sl.getD i dS).cls) (hw : w.heap[b]? = some (.cells (wv l).toArray 35 (0, 0))) (h1 : b ≠ T) (h2 : b ≠ Q) :
    RA Q T o cp k A (sl.set i { sl.getD i dS with blk := b, ws := l }) ys PA PC (w.setCell ⟨T, o + i * 4 + 3, none⟩ (.slice (some ⟨b, 0, none⟩) (szN (sl.getD i dS).cls) (szN (sl.getD i dS).cls))) := by
  refine ⟨by rw [List.length_set]; exact (World.cell?_setCell_far _ _ _ _ (by show T ≠ Q; exact Ne.symm h.qt)).trans h.c0, by rw [List.length_set]; exact h.hA, h.row.setWs hi l, fun j hj => ?_, fun c hc => (h.pl c hc).set_far h.qt (h.pt c hc) _, by rw [List.length_set]; exact h.len, h.qt, fun j hj => ?_, h.pt, by rw [List.length_set]; simpa using h.tl, by simpa using h.ql, h.pcm, h.yl, fun c hc ad e => by simpa using h.pb c hc ad e⟩
  · rw [List.length_set] at hj
    rw [getD_set hi]
    split
    · rename_i e
      exact ⟨(heap_far _ _ _ h1).trans hw, hl, (h.wds i hi).2.2⟩
    · exact ⟨(heap_far _ _ _ (h.wt j hj).1).trans (h.wds j hj).1, (h.wds j hj).2⟩
  · rw [List.length_set] at hj
    rw [getD_set hi]
    split
    · exact ⟨h1, h2⟩
    · exact h.wt j hj
/-- What a call on one of its pools did. -/
theorem RA.pool {Q T o cp k c C' : Nat} {A A' : Option Addr} {sl : List Sl} {ys : Nat → List Int} {PA : Nat → Option Addr} {PC : Nat → Nat} {w w' : World} (h : RA Q T o cp k A sl ys PA PC w) {l : List Int} (hr : RefP Q (1 + c * 2) 0 k A' C' l w') (hk : KeptR Q (1 + c * 2) w w') (hp : ∀ ad, A' = some ad → ad.block ≠ T) (hC : C' ≤ maxLen) (hl : l.length ≤ 1024) (hpb : ∀ ad, A' = some ad → ad.block < w'.heap.size) :
    RA Q T o cp k A sl (up ys c l) (up PA c A') (up PC c C') w' := by
  have hT : ∀ x, 0 < sl.length → w'.heap[T]? = w.heap[T]? ∧ w'.cell? ⟨T, x, none⟩ = w.cell? ⟨T, x, none⟩ ∧ w'.frozen? ⟨T, x, none⟩ = w.frozen? ⟨T, x, none⟩ := fun x hx => by
    have e := hk.block T (h.tl hx) (Ne.symm h.qt)
    exact ⟨e, World.cell?_of_block (a := ⟨T, x, none⟩) e, World.frozen?_of_block (a := ⟨T, x, none⟩) e⟩
  refine ⟨(hk.cells 0 (by omega)).trans h.c0, h.hA, ⟨fun i hi => (hT _ (by omega)).2.1.trans (h.row.r0 i hi), fun i hi => (hT _ (by omega)).2.1.trans (h.row.r1 i hi), fun i hi => (hT _ (by omega)).2.1.trans (h.row.r2 i hi), fun i hi => (hT _ (by omega)).2.1.trans (h.row.r3 i hi), fun i hi j => (hT _ (by omega)).2.2.trans (h.row.fr i hi j)⟩,
    fun i hi => ⟨(hk.block _ (lt_of_heap (h.wds i hi).1) (h.wt i hi).2).trans (h.wds i hi).1, (h.wds i hi).2⟩, fun d hd => ?_, h.len, h.qt, h.wt, fun d hd ad e => ?_, fun hx => Nat.lt_of_lt_of_le (h.tl hx) hk.size, Nat.lt_of_lt_of_le h.ql hk.size, fun d hd => ?_, fun d hd => ?_, fun d hd ad e => ?_⟩
  · by_cases e : d = c
    · subst e; rw [up_same, up_same, up_same]; exact hr
    · rw [up_other _ _ e, up_other _ _ e, up_other _ _ e]
      have hd' := h.pl d hd
      refine ⟨(hk.cells _ (by omega)).trans hd'.c0, (hk.cells _ (by omega)).trans hd'.c1, (hk.frz _).trans hd'.f1, ⟨hd'.rd.1, fun hn => ?_⟩, hd'.cap, hd'.far⟩
      obtain ⟨ad, e1, hlt, hc⟩ := hd'.rd.2 hn
      have hb := hk.block ad.block hlt (hd'.far ad e1)
      exact ⟨ad, e1, Nat.lt_of_lt_of_le hlt hk.size, fun j u hu => by
        have := World.cell?_of_block (a := ad.add j) (w := w) (w' := w') (by rw [block_of_add]; exact hb)
        rw [this]; exact hc j u hu⟩
  · by_cases e2 : d = c
    · subst e2; rw [up_same] at e; exact hp ad e
    · rw [up_other _ _ e2] at e; exact h.pt d hd ad e
  · by_cases e2 : d = c
    · subst e2; rw [up_same]; exact hC
    · rw [up_other _ _ e2]; exact h.pcm d hd
  · by_cases e2 : d = c
    · subst e2; rw [up_same]; exact hl
    · rw [up_other _ _ e2]; exact h.yl d hd
  · by_cases e2 : d = c
    · subst e2; rw [up_same] at e; exact hpb ad e
    · rw [up_other _ _ e2] at e; exact Nat.lt_of_lt_of_le (h.pb d hd ad e) hk.size
section
variable {Q T o cp k : Nat} {A : Option Addr} {sl : List Sl} {ys : Nat → List Int} {PA : Nat → Option Addr} {PC : Nat → Nat} {w w' : World}
set_option maxRecDepth 100000 in
set_option maxHeartbeats 1600000 in
theorem rload_no (h : RA Q T o cp k A sl ys PA PC w) {r : Int} {z : Nat} (hw : Why sl r z) (hz : z = 1 ∨ z = 3 ∨ z = 4) :
    Calls Try.prog 27 #[.pointer (some ⟨Q, 0, none⟩), .int .i64 r] w fun e w' => e = .returned (.tuple #[.slice none 0 0, .int .i64 (z : Nat)]) ∧ w' = w := by
  have HA := Lib.hid (rat_no h.c0 h.hA h.row h.len hw)
  have hne : (((z : Nat) : Int) != 0) = true := by simp; omega
  clear h hw hz
  go_enter Try.func27, Try.ntmps27
  go_wp2_with (first
    | (go_at_call 59; refine HA.out.mono ?_; rintro e w9 ⟨rfl, hh⟩; replace hh := hh.symm; subst hh)
    | fail)
  go_ret2
  exact ⟨rfl, rfl⟩
set_option maxRecDepth 100000 in
set_option maxHeartbeats 1600000 in
theorem rload_ok (h : RA Q T o cp k A sl ys PA PC w) {r : Int} {i : Nat} (hw : Live sl r i) :
    Calls Try.prog 27 #[.pointer (some ⟨Q, 0, none⟩), .int .i64 r] w fun e w' => ∃ A' c', e = .returned (.tuple #[.slice A' (szN (sl.getD i dS).cls) c', .int .i64 0]) ∧ Mid w' w.heap.size 35 1 (.slice A' (szN (sl.getD i dS).cls) c') (szN (sl.getD i dS).cls) (wv (sl.getD i dS).ws) ∧ Below w.heap.size w w' := by
  have hi := hw.lt
  have HAT := Lib.hid (rat_ok h.c0 h.hA h.row h.len hw)
  have hA1 := h.hA (by omega)
  subst hA1
  have c0 := h.c0
  have r3 := h.row.r3 i hi
  obtain ⟨hb, hl, hc5⟩ := h.wds i hi
  have hle := szN_le (sl.getD i dS).cls
  have i0 : (0 : Int) ≤ i := by omega
  have i1 : (i : Int) < sl.length := by omega
  clear h hw
  generalize szN (sl.getD i dS).cls = n at *
  generalize (sl.getD i dS).ws = l at *
  generalize (sl.getD i dS).blk = g at *
  generalize sl.length = nn at *
  obtain ⟨i5, hi5, z5a, z5b, z5c⟩ := info_parts info35b
  obtain ⟨W0, hW0⟩ : ∃ W0 : World, W0 = w.alloc (.cells #[] 35) := ⟨_, rfl⟩
  have b0 : Below w.heap.size w W0 := by rw [hW0]; exact below_alloc w _
  have HMe : Hid (Mid W0 w.heap.size 35 1 (.slice (some ⟨w.heap.size, 0, none⟩) 0 0) 0 []) := Lib.hid ⟨rfl, .inr ⟨_, 0, 0, #[], rfl, Nat.le_refl _, by rw [hW0]; exact heap_alloc_new w _, Nat.le_refl _, Nat.zero_le _, by simp, rfl⟩⟩
  have HB0 := Lib.hid b0
  have HW0 := Lib.hid hW0
  have HRD : Hid (Reads W0 W0.heap.size 1 (some ⟨g, 0, none⟩) n (wv l)) := Lib.hid ⟨by rw [wv_len, hl, Nat.mul_one], fun _ => ⟨_, rfl, by have := lt_of_heap hb; have := b0.size; show g < _; omega, fun j u hu => by
    have : (⟨g, 0, none⟩ : Addr).add j = ⟨g, j, none⟩ := by simp [Addr.add]; intro e; exact e.symm
    rw [this, cell_of ((b0.block g (lt_of_heap hb)).trans hb)]; simpa using hu⟩⟩
  have hrun := run_b30
  have c0' : W0.cell? ⟨Q, 0, none⟩ = some (.slice (some ⟨T, o, none⟩) nn cp) := (b0.cell (World.block_lt_of_cell? _ _ c0)).trans c0
  have r3' : W0.cell? ⟨T, o + i * 4 + 3, none⟩ = some (.slice (some ⟨g, 0, none⟩) n n) := (b0.cell (World.block_lt_of_cell? _ _ r3)).trans r3
  clear hW0 b0 c0 r3 hb hl hc5
  go_enter Try.func27, Try.ntmps27
  go_upto_region 4 with (first
    | (go_at_call 59; refine HAT.out.mono ?_; rintro e w9 ⟨rfl, hh⟩; replace hh := hh.symm; subst hh)
    | fail)
  have e0 := HW0.out
  subst e0
  go_wp2_with (first
    | (refine wpList_append_src rfl (.tmp 17) (.tmp 25) 30 rfl w.heap.size 35 i5 _ 1 8 Try.underlying30 hi5 z5a z5b z5c rfl (by omega) (.slice (some ⟨w.heap.size, 0, none⟩) 0 0) 0 [] rfl HMe.out _ (some ⟨g, 0, none⟩) n n (wv l) rfl HRD.out (wv_one l) (by unfold maxLen; omega) (by omega) (by simp) ?_
       intro v3 w3 hm hrn
       rw [Nat.zero_add, List.nil_append] at hm
       have HM := Lib.hid hm
       have HB3 : Hid (Below w.heap.size w w3) := Lib.hid (HB0.out.grown hrn.grown HB0.out.size (fun g hg => (HMe.out.lt g hg).1))
       obtain ⟨A3, c3, e3⟩ := hm.form
       subst e3
       clear hm hrn)
    | fail)
  go_ret2
  exact ⟨A3, c3, rfl, HM.out, HB3.out⟩
end
end Go.Proofs.Ytndmpdpmfieacaa

namespace Go.Proofs.Ytndmpdpmfieacaa
open Go.RowKit Go.WideShapes Go.ChangeShapes
set_option linter.all false
/-- What these regions load. -/
def S2 (Q T o i nn cp kl : Nat) (W : World) : Prop := W.cell? ⟨Q, 0, none⟩ = some (.slice (some ⟨T, o, none⟩) nn cp) ∧ W.cell? ⟨T, o + i * 4, none⟩ = some (.int .i64 (kl : Nat))
/-- What a call on the reference's arena did: only Q and T have turned, and what is new. -/
structure RMv (Q T : Nat) (w w' : World) : Prop where
  os : w'.os = w.os
  tape : w'.tape = w.tape
  output : w'.output = w.output
  size : w.heap.size ≤ w'.heap.size
  block : ∀ b, b < w.heap.size → b ≠ Q → b ≠ T → w'.heap[b]? = w.heap[b]?
/-- Where the pools' lists lie behind a call: where they lay, or anew. -/
def RP (PA PA' : Nat → Option Addr) (w : World) : Prop := ∀ d, d < 5 → ∀ ad, PA' d = some ad → (∃ a, PA d = some a ∧ a.block = ad.block) ∨ w.heap.size ≤ ad.block
section
variable {Q T o cp k : Nat} {A : Option Addr} {sl : List Sl} {ys : Nat → List Int} {PA : Nat → Option Addr} {PC : Nat → Nat} {w w' : World}
set_option maxRecDepth 100000 in
set_option maxHeartbeats 1600000 in
theorem rstore_no (h : RA Q T o cp k A sl ys PA PC w) {r : Int} {z : Nat} (hw : Why sl r z) (hz : z = 1 ∨ z = 3 ∨ z = 4) (A' : Option Addr) (m cc : Nat) :
    Calls Try.prog 30 #[.pointer (some ⟨Q, 0, none⟩), .int .i64 r, .slice A' m cc] w fun e w' => e = .returned (.int .i64 (z : Nat)) ∧ w' = w := by
  have HA := Lib.hid (rat_no h.c0 h.hA h.row h.len hw)
  have hne : (((z : Nat) : Int) != 0) = true := by simp; omega
  clear h hw hz
  go_enter Try.func30, Try.ntmps30
  go_wp2_with (first
    | (go_at_call 59; refine HA.out.mono ?_; rintro e w9 ⟨rfl, hh⟩; replace hh := hh.symm; subst hh)
    | fail)
  go_ret
  exact ⟨rfl, rfl⟩
set_option maxRecDepth 100000 in
set_option maxHeartbeats 1600000 in
theorem rswap_no (h : RA Q T o cp k A sl ys PA PC w) {r : Int} {z : Nat} (hw : Why sl r z) (hz : z = 1 ∨ z = 3 ∨ z = 4) (x : Int) (A' : Option Addr) (m cc : Nat) :
    Calls Try.prog 31 #[.pointer (some ⟨Q, 0, none⟩), .int .i64 r, .int .u64 x, .slice A' m cc] w fun e w' => e = .returned (.tuple #[.bool false, .int .i64 (z : Nat)]) ∧ w' = w := by
  have HA := Lib.hid (rat_no h.c0 h.hA h.row h.len hw)
  have hne : (((z : Nat) : Int) != 0) = true := by simp; omega
  clear h hw hz
  go_enter Try.func31, Try.ntmps31
  go_wp2_with (first
    | (go_at_call 59; refine HA.out.mono ?_; rintro e w9 ⟨rfl, hh⟩; replace hh := hh.symm; subst hh)
    | fail)
  go_ret2
  exact ⟨rfl, rfl⟩
set_option maxRecDepth 100000 in
set_option maxHeartbeats 3200000 in
theorem rstore_ok (h : RA Q T o cp k A sl ys PA PC w) {r : Int} {i : Nat} (hw : Live sl r i) {M m cc : Nat} {A' : Option Addr} {l : List Int} (hr : Reads w M 1 A' m (wv l)) (hM : M ≤ w.heap.size) (hm : m ≤ szN (sl.getD i dS).cls) :
    Calls Try.prog 30 #[.pointer (some ⟨Q, 0, none⟩), .int .i64 r, .slice A' m cc] w fun e w' => e = .returned (.int .i64 0) ∧ ∃ bk, RA Q T o cp k A (sl.set i { sl.getD i dS with blk := bk, ws := fillL (szN (sl.getD i dS).cls) l }) ys PA PC w' ∧ RMv Q T w w' ∧ w.heap.size ≤ bk := by
  have hi := hw.lt
  have HAT := Lib.hid (rat_ok h.c0 h.hA h.row h.len hw)
  have hA1 := h.hA (by omega)
  subst hA1
  have c0 := h.c0
  have c1 := h.row.r0 i hi
  have r3 := h.row.r3 i hi
  have f3 := h.row.fr i hi (o + i * 4 + 3)
  obtain ⟨hb, hl, hc5⟩ := h.wds i hi
  have hle := szN_le (sl.getD i dS).cls
  have hps := szN_pos hc5
  have i0 : (0 : Int) ≤ i := by omega
  have i1 : (i : Int) < sl.length := by omega
  have HFL : Hid (∀ W, Below w.heap.size w W → Calls Try.prog 61 #[.int .i64 ((sl.getD i dS).cls : Nat), .slice A' m cc] W fun e w' => ∃ b, e = .returned (.slice (some ⟨b, 0, none⟩) (szN (sl.getD i dS).cls) (szN (sl.getD i dS).cls)) ∧ w'.heap[b]? = some (.cells (wv (fillL (szN (sl.getD i dS).cls) l)).toArray 35 (0, 0)) ∧ W.heap.size ≤ b ∧ Below W.heap.size W w') := Lib.hid (fun W hW => rfill_any _ hc5 W (hr.below (hW.mono hM)) (by have := hW.size; omega) hm)
  have HSZ := Lib.hid (fun W => rsize_in _ hc5 W)
  have hmi : ¬ ((m : Nat) : Int) > (szN (sl.getD i dS).cls : Nat) := by omega
  have hll : l.length = m := by have := hr.1; rw [wv_len] at this; omega
  have HFIN : Hid (∀ W bk, Below w.heap.size w W → W.heap[bk]? = some (.cells (wv (fillL (szN (sl.getD i dS).cls) l)).toArray 35 (0, 0)) → w.heap.size ≤ bk → RA Q T o cp k (some ⟨T, o, none⟩) (sl.set i { sl.getD i dS with blk := bk, ws := fillL (szN (sl.getD i dS).cls) l }) ys PA PC (W.setCell ⟨T, o + i * 4 + 3, none⟩ (.slice (some ⟨bk, 0, none⟩) (szN (sl.getD i dS).cls) (szN (sl.getD i dS).cls))) ∧ RMv Q T w (W.setCell ⟨T, o + i * 4 + 3, none⟩ (.slice (some ⟨bk, 0, none⟩) (szN (sl.getD i dS).cls) (szN (sl.getD i dS).cls)))) := Lib.hid (fun W bk hW hbk hge =>
    ⟨(h.on hW).setWs hi (fillL_len (by omega)) hbk (by have := h.tl (by omega); omega) (by have := h.ql; omega), ⟨hW.os, hW.tape, hW.output, by simpa using hW.size, fun b hb hq ht => (heap_far _ _ _ ht).trans (hW.block b hb)⟩⟩)
  clear h hw hr hb hl hc5 hll
  generalize szN (sl.getD i dS).cls = n at *
  generalize (sl.getD i dS).blk = g0 at *
  generalize ((sl.getD i dS).cls : Nat) = kl at *
  obtain ⟨nn, hnn⟩ : ∃ nn, nn = sl.length := ⟨_, rfl⟩
  rw [← hnn] at c0 i1
  go_enter Try.func30, Try.ntmps30
  go_upto_region 6 with (first
    | (go_at_call 59; refine HAT.out.mono ?_; rintro e w9 ⟨rfl, hh⟩; replace hh := hh.symm; subst hh)
    | (go_at_call 32; refine (HSZ.out _).mono ?_; rintro e w9 ⟨rfl, hh⟩; replace hh := hh.symm; subst hh)
    | fail)
  have HSD : Hid (S2 Q T o i nn cp kl w.drew) := Lib.hid ⟨c0, c1⟩
  refine wp_region_K (S2 Q T o i nn cp kl) 15 (by kernel_rfl) ?_
  refine wpAnyK_pure (i := 0) (oi := _) (v := ?_) (by rfl) (by kernel_rfl) (by intro _ _ _ h; exact h) (Or.inl ⟨by rfl, ?_⟩) ?_
  rotate_left 1
  · intro w' _
    go_simp
    all_goals with_reducible rfl
  simp only [Act.put, List.getElem_toArray, List.getElem_cons_zero, List.getElem_cons_succ, List.setIfInBounds_toArray, List.set_cons_zero, List.set_cons_succ]
  refine wpAnyK_pure (i := 1) (oi := _) (v := ?_) (by rfl) (by kernel_rfl) (by intro _ _ _ h; exact h) (Or.inl ⟨by rfl, ?_⟩) ?_
  rotate_left 1
  · intro w' _
    go_simp
    all_goals with_reducible rfl
  simp only [Act.put, List.getElem_toArray, List.getElem_cons_zero, List.getElem_cons_succ, List.setIfInBounds_toArray, List.set_cons_zero, List.set_cons_succ]
  refine wpAnyK_pure (i := 2) (oi := _) (v := ?_) (by rfl) (by kernel_rfl) (by intro _ _ _ h; exact h) (Or.inl ⟨by rfl, ?_⟩) ?_
  rotate_left 1
  · intro w' _
    go_simp
    all_goals with_reducible rfl
  simp only [Act.put, List.getElem_toArray, List.getElem_cons_zero, List.getElem_cons_succ, List.setIfInBounds_toArray, List.set_cons_zero, List.set_cons_succ]
  refine wpAnyK_take (i := 3) (oi := _) (v := ?_) (by rfl) (by kernel_rfl) (by intro _ _ _ h; exact h) HSD.out (Or.inl ⟨by rfl, ?_⟩) ?_
  rotate_left 1
  · intro w' hl
    have l0 := hl.1
    have l1 := hl.2
    clear hl
    go_simp
    all_goals with_reducible rfl
  simp only [Act.put, List.getElem_toArray, List.getElem_cons_zero, List.getElem_cons_succ, List.setIfInBounds_toArray, List.set_cons_zero, List.set_cons_succ]
  refine wpAnyK_pure (i := 4) (oi := _) (v := ?_) (by rfl) (by kernel_rfl) (by intro _ _ _ h; exact h) (Or.inl ⟨by rfl, ?_⟩) ?_
  rotate_left 1
  · intro w' _
    go_simp
    all_goals with_reducible rfl
  simp only [Act.put, List.getElem_toArray, List.getElem_cons_zero, List.getElem_cons_succ, List.setIfInBounds_toArray, List.set_cons_zero, List.set_cons_succ]
  refine wpAnyK_pure (i := 5) (oi := _) (v := ?_) (by rfl) (by kernel_rfl) (by intro _ _ _ h; exact h) (Or.inl ⟨by rfl, ?_⟩) ?_
  rotate_left 1
  · intro w' _
    go_simp
    all_goals with_reducible rfl
  simp only [Act.put, List.getElem_toArray, List.getElem_cons_zero, List.getElem_cons_succ, List.setIfInBounds_toArray, List.set_cons_zero, List.set_cons_succ]
  refine wpAnyK_pure (i := 6) (oi := _) (v := ?_) (by rfl) (by kernel_rfl) (by intro _ _ _ h; exact h) (Or.inl ⟨by rfl, ?_⟩) ?_
  rotate_left 1
  · intro w' _
    go_simp
    all_goals with_reducible rfl
  simp only [Act.put, List.getElem_toArray, List.getElem_cons_zero, List.getElem_cons_succ, List.setIfInBounds_toArray, List.set_cons_zero, List.set_cons_succ]
  refine wpAnyK_pure (i := 7) (oi := _) (v := ?_) (by rfl) (by kernel_rfl) (by intro _ _ _ h; exact h) (Or.inl ⟨by rfl, ?_⟩) ?_
  rotate_left 1
  · intro w' _
    go_simp
    all_goals with_reducible rfl
  simp only [Act.put, List.getElem_toArray, List.getElem_cons_zero, List.getElem_cons_succ, List.setIfInBounds_toArray, List.set_cons_zero, List.set_cons_succ]
  refine wpAnyK_take (i := 8) (oi := _) (v := ?_) (by rfl) (by kernel_rfl) (by intro _ _ _ h; exact h) HSD.out (Or.inl ⟨by rfl, ?_⟩) ?_
  rotate_left 1
  · intro w' hl
    have l0 := hl.1
    have l1 := hl.2
    clear hl
    go_simp
    all_goals with_reducible rfl
  simp only [Act.put, List.getElem_toArray, List.getElem_cons_zero, List.getElem_cons_succ, List.setIfInBounds_toArray, List.set_cons_zero, List.set_cons_succ]
  refine wpAnyK_pure (i := 9) (oi := _) (v := ?_) (by rfl) (by kernel_rfl) (by intro _ _ _ h; exact h) (Or.inl ⟨by rfl, ?_⟩) ?_
  rotate_left 1
  · intro w' _
    go_simp
    all_goals with_reducible rfl
  simp only [Act.put, List.getElem_toArray, List.getElem_cons_zero, List.getElem_cons_succ, List.setIfInBounds_toArray, List.set_cons_zero, List.set_cons_succ]
  refine wpAnyK_pure (i := 10) (oi := _) (v := ?_) (by rfl) (by kernel_rfl) (by intro _ _ _ h; exact h) (Or.inl ⟨by rfl, ?_⟩) ?_
  rotate_left 1
  · intro w' _
    go_simp
    all_goals with_reducible rfl
  simp only [Act.put, List.getElem_toArray, List.getElem_cons_zero, List.getElem_cons_succ, List.setIfInBounds_toArray, List.set_cons_zero, List.set_cons_succ]
  refine wpAnyK_pure (i := 11) (oi := _) (v := ?_) (by rfl) (by kernel_rfl) (by intro _ _ _ h; exact h) (Or.inl ⟨by rfl, ?_⟩) ?_
  rotate_left 1
  · intro w' _
    go_simp
    all_goals with_reducible rfl
  simp only [Act.put, List.getElem_toArray, List.getElem_cons_zero, List.getElem_cons_succ, List.setIfInBounds_toArray, List.set_cons_zero, List.set_cons_succ]
  refine wpAnyK_take (i := 12) (oi := _) (v := ?_) (by rfl) (by kernel_rfl) (by intro _ _ _ h; exact h) HSD.out (Or.inl ⟨by rfl, ?_⟩) ?_
  rotate_left 1
  · intro w' hl
    have l0 := hl.1
    have l1 := hl.2
    clear hl
    go_simp
    all_goals with_reducible rfl
  simp only [Act.put, List.getElem_toArray, List.getElem_cons_zero, List.getElem_cons_succ, List.setIfInBounds_toArray, List.set_cons_zero, List.set_cons_succ]
  refine wpAnyK_pure (i := 13) (oi := _) (v := ?_) (by rfl) (by kernel_rfl) (by intro _ _ _ h; exact h) (Or.inl ⟨by rfl, ?_⟩) ?_
  rotate_left 1
  · intro w' _
    go_simp
    all_goals with_reducible rfl
  simp only [Act.put, List.getElem_toArray, List.getElem_cons_zero, List.getElem_cons_succ, List.setIfInBounds_toArray, List.set_cons_zero, List.set_cons_succ]
  refine wpAnyK_all (rs := [14]) (by kernel_rfl) (by simp) ?_
  intro ix hix
  simp only [List.mem_cons, List.not_mem_nil, or_false] at hix
  subst hix
  refine wpK_op (o := _) (by rfl) (fun K hK => ?_)
  go_simp
  go_at_call 61
  refine (HFL.out _ (below_drew w)).mono ?_
  rintro e w5 ⟨bk, rfl, hbk, hge, hb5⟩
  have HB5 := Lib.hid ((below_drew w).trans (hb5.mono (below_drew w).size))
  have HBK := Lib.hid hbk
  have HGE : Hid (w.heap.size ≤ bk) := Lib.hid hge
  have HS5 : Hid (S2 Q T o i nn cp kl w5) := Lib.hid ⟨(hb5.cell (p := ⟨Q, 0, none⟩) (World.block_lt_of_cell? _ _ c0)).trans c0, (hb5.cell (p := ⟨T, o + i * 4, none⟩) (World.block_lt_of_cell? _ _ c1)).trans c1⟩
  refine hK _ _ (fun _ _ => HS5.out) ?_
  clear hK K
  try simp only [Act.put, List.getElem_toArray, List.getElem_cons_zero, List.getElem_cons_succ, List.setIfInBounds_toArray, List.set_cons_zero, List.set_cons_succ]
  clear hbk hge hb5
  refine wpAnyK_pure (i := 15) (oi := _) (v := ?_) (by rfl) (by kernel_rfl) (by intro _ _ _ h; exact h) (Or.inl ⟨by rfl, ?_⟩) ?_
  rotate_left 1
  · intro w' _
    go_simp
    all_goals with_reducible rfl
  simp only [Act.put, List.getElem_toArray, List.getElem_cons_zero, List.getElem_cons_succ, List.setIfInBounds_toArray, List.set_cons_zero, List.set_cons_succ]
  refine wpAnyK_pure (i := 16) (oi := _) (v := ?_) (by rfl) (by kernel_rfl) (by intro _ _ _ h; exact h) (Or.inl ⟨by rfl, ?_⟩) ?_
  rotate_left 1
  · intro w' _
    go_simp
    all_goals with_reducible rfl
  simp only [Act.put, List.getElem_toArray, List.getElem_cons_zero, List.getElem_cons_succ, List.setIfInBounds_toArray, List.set_cons_zero, List.set_cons_succ]
  have r3' : w5.cell? ⟨T, o + i * 4 + 3, none⟩ = some (.slice (some ⟨g0, 0, none⟩) n n) := (HB5.out.cell (World.block_lt_of_cell? _ _ r3)).trans r3
  have f3' : w5.frozen? ⟨T, o + i * 4 + 3, none⟩ = false := (HB5.out.frozen (p := ⟨T, o + i * 4 + 3, none⟩) (World.block_lt_of_cell? _ _ r3)).trans f3
  refine wpAnyK_all (rs := [17]) (by kernel_rfl) (by simp) ?_
  intro ix hix
  simp only [List.mem_cons, List.not_mem_nil, or_false] at hix
  subst hix
  refine wpK_op (o := _) (by rfl) (fun K hK => ?_)
  go_simp
  refine hK _ _ (fun h => absurd h (by omega)) ?_
  clear hK K
  try simp only [Act.put, List.getElem_toArray, List.getElem_cons_zero, List.getElem_cons_succ, List.setIfInBounds_toArray, List.set_cons_zero, List.set_cons_succ]
  refine wpAnyK_done (by kernel_rfl) ?_ _
  go_wp2
  go_ret
  exact ⟨rfl, bk, (HFIN.out _ bk HB5.out HBK.out HGE.out).1, (HFIN.out _ bk HB5.out HBK.out HGE.out).2, HGE.out⟩
set_option maxRecDepth 100000 in
set_option maxHeartbeats 3200000 in
theorem rswap_ok (h : RA Q T o cp k A sl ys PA PC w) {r : Int} {i : Nat} (hw : Live sl r i) {x : Int} {M m cc : Nat} {A' : Option Addr} {l : List Int} (hr : Reads w M 1 A' m (wv l)) (hM : M ≤ w.heap.size) (hm : m ≤ szN (sl.getD i dS).cls) (hx : (sl.getD i dS).ws.getD 0 0 = x) :
    Calls Try.prog 31 #[.pointer (some ⟨Q, 0, none⟩), .int .i64 r, .int .u64 x, .slice A' m cc] w fun e w' => e = .returned (.tuple #[.bool true, .int .i64 0]) ∧ ∃ bk, RA Q T o cp k A (sl.set i { sl.getD i dS with blk := bk, ws := fillL (szN (sl.getD i dS).cls) l }) ys PA PC w' ∧ RMv Q T w w' ∧ w.heap.size ≤ bk := by
  have hi := hw.lt
  have HAT := Lib.hid (rat_ok h.c0 h.hA h.row h.len hw)
  have hA1 := h.hA (by omega)
  subst hA1
  have c0 := h.c0
  have c1 := h.row.r0 i hi
  have r3 := h.row.r3 i hi
  have f3 := h.row.fr i hi (o + i * 4 + 3)
  obtain ⟨hb, hl, hc5⟩ := h.wds i hi
  have hle := szN_le (sl.getD i dS).cls
  have hps := szN_pos hc5
  have i0 : (0 : Int) ≤ i := by omega
  have i1 : (i : Int) < sl.length := by omega
  have HFL : Hid (∀ W, Below w.heap.size w W → Calls Try.prog 61 #[.int .i64 ((sl.getD i dS).cls : Nat), .slice A' m cc] W fun e w' => ∃ b, e = .returned (.slice (some ⟨b, 0, none⟩) (szN (sl.getD i dS).cls) (szN (sl.getD i dS).cls)) ∧ w'.heap[b]? = some (.cells (wv (fillL (szN (sl.getD i dS).cls) l)).toArray 35 (0, 0)) ∧ W.heap.size ≤ b ∧ Below W.heap.size W w') := Lib.hid (fun W hW => rfill_any _ hc5 W (hr.below (hW.mono hM)) (by have := hW.size; omega) hm)
  have HSZ := Lib.hid (fun W => rsize_in _ hc5 W)
  have hmi : ¬ ((m : Nat) : Int) > (szN (sl.getD i dS).cls : Nat) := by omega
  have hll : l.length = m := by have := hr.1; rw [wv_len] at this; omega
  have HFIN : Hid (∀ W bk, Below w.heap.size w W → W.heap[bk]? = some (.cells (wv (fillL (szN (sl.getD i dS).cls) l)).toArray 35 (0, 0)) → w.heap.size ≤ bk → RA Q T o cp k (some ⟨T, o, none⟩) (sl.set i { sl.getD i dS with blk := bk, ws := fillL (szN (sl.getD i dS).cls) l }) ys PA PC (W.setCell ⟨T, o + i * 4 + 3, none⟩ (.slice (some ⟨bk, 0, none⟩) (szN (sl.getD i dS).cls) (szN (sl.getD i dS).cls))) ∧ RMv Q T w (W.setCell ⟨T, o + i * 4 + 3, none⟩ (.slice (some ⟨bk, 0, none⟩) (szN (sl.getD i dS).cls) (szN (sl.getD i dS).cls)))) := Lib.hid (fun W bk hW hbk hge =>
    ⟨(h.on hW).setWs hi (fillL_len (by omega)) hbk (by have := h.tl (by omega); omega) (by have := h.ql; omega), ⟨hW.os, hW.tape, hW.output, by simpa using hW.size, fun b hb hq ht => (heap_far _ _ _ ht).trans (hW.block b hb)⟩⟩)
  have hword : w.cell? ⟨(sl.getD i dS).blk, 0, none⟩ = some (.int .u64 ((sl.getD i dS).ws.getD 0 0)) := by
    rw [cell_of hb]
    have hne : 0 < (sl.getD i dS).ws.length := by omega
    generalize (sl.getD i dS).ws = lw at *
    cases lw with
    | nil => simp at hne
    | cons y t => rfl
  generalize hy : (sl.getD i dS).ws.getD 0 0 = y at *
  have hxx : (y != x) = false := by simpa using hx
  clear h hw hr hb hl hc5 hll hy hx
  generalize szN (sl.getD i dS).cls = n at *
  generalize (sl.getD i dS).blk = g0 at *
  generalize ((sl.getD i dS).cls : Nat) = kl at *
  obtain ⟨nn, hnn⟩ : ∃ nn, nn = sl.length := ⟨_, rfl⟩
  rw [← hnn] at c0 i1
  have n0 : (0 : Int) < n := by omega
  go_enter Try.func31, Try.ntmps31
  go_upto_region 8 with (first
    | (go_at_call 59; refine HAT.out.mono ?_; rintro e w9 ⟨rfl, hh⟩; replace hh := hh.symm; subst hh)
    | (go_at_call 32; refine (HSZ.out _).mono ?_; rintro e w9 ⟨rfl, hh⟩; replace hh := hh.symm; subst hh)
    | fail)
  have HSD : Hid (S2 Q T o i nn cp kl w.drew) := Lib.hid ⟨c0, c1⟩
  refine wp_region_K (S2 Q T o i nn cp kl) 15 (by kernel_rfl) ?_
  refine wpAnyK_pure (i := 0) (oi := _) (v := ?_) (by rfl) (by kernel_rfl) (by intro _ _ _ h; exact h) (Or.inl ⟨by rfl, ?_⟩) ?_
  rotate_left 1
  · intro w' _
    go_simp
    all_goals with_reducible rfl
  simp only [Act.put, List.getElem_toArray, List.getElem_cons_zero, List.getElem_cons_succ, List.setIfInBounds_toArray, List.set_cons_zero, List.set_cons_succ]
  refine wpAnyK_pure (i := 1) (oi := _) (v := ?_) (by rfl) (by kernel_rfl) (by intro _ _ _ h; exact h) (Or.inl ⟨by rfl, ?_⟩) ?_
  rotate_left 1
  · intro w' _
    go_simp
    all_goals with_reducible rfl
  simp only [Act.put, List.getElem_toArray, List.getElem_cons_zero, List.getElem_cons_succ, List.setIfInBounds_toArray, List.set_cons_zero, List.set_cons_succ]
  refine wpAnyK_pure (i := 2) (oi := _) (v := ?_) (by rfl) (by kernel_rfl) (by intro _ _ _ h; exact h) (Or.inl ⟨by rfl, ?_⟩) ?_
  rotate_left 1
  · intro w' _
    go_simp
    all_goals with_reducible rfl
  simp only [Act.put, List.getElem_toArray, List.getElem_cons_zero, List.getElem_cons_succ, List.setIfInBounds_toArray, List.set_cons_zero, List.set_cons_succ]
  refine wpAnyK_take (i := 3) (oi := _) (v := ?_) (by rfl) (by kernel_rfl) (by intro _ _ _ h; exact h) HSD.out (Or.inl ⟨by rfl, ?_⟩) ?_
  rotate_left 1
  · intro w' hl
    have l0 := hl.1
    have l1 := hl.2
    clear hl
    go_simp
    all_goals with_reducible rfl
  simp only [Act.put, List.getElem_toArray, List.getElem_cons_zero, List.getElem_cons_succ, List.setIfInBounds_toArray, List.set_cons_zero, List.set_cons_succ]
  refine wpAnyK_pure (i := 4) (oi := _) (v := ?_) (by rfl) (by kernel_rfl) (by intro _ _ _ h; exact h) (Or.inl ⟨by rfl, ?_⟩) ?_
  rotate_left 1
  · intro w' _
    go_simp
    all_goals with_reducible rfl
  simp only [Act.put, List.getElem_toArray, List.getElem_cons_zero, List.getElem_cons_succ, List.setIfInBounds_toArray, List.set_cons_zero, List.set_cons_succ]
  refine wpAnyK_pure (i := 5) (oi := _) (v := ?_) (by rfl) (by kernel_rfl) (by intro _ _ _ h; exact h) (Or.inl ⟨by rfl, ?_⟩) ?_
  rotate_left 1
  · intro w' _
    go_simp
    all_goals with_reducible rfl
  simp only [Act.put, List.getElem_toArray, List.getElem_cons_zero, List.getElem_cons_succ, List.setIfInBounds_toArray, List.set_cons_zero, List.set_cons_succ]
  refine wpAnyK_pure (i := 6) (oi := _) (v := ?_) (by rfl) (by kernel_rfl) (by intro _ _ _ h; exact h) (Or.inl ⟨by rfl, ?_⟩) ?_
  rotate_left 1
  · intro w' _
    go_simp
    all_goals with_reducible rfl
  simp only [Act.put, List.getElem_toArray, List.getElem_cons_zero, List.getElem_cons_succ, List.setIfInBounds_toArray, List.set_cons_zero, List.set_cons_succ]
  refine wpAnyK_pure (i := 7) (oi := _) (v := ?_) (by rfl) (by kernel_rfl) (by intro _ _ _ h; exact h) (Or.inl ⟨by rfl, ?_⟩) ?_
  rotate_left 1
  · intro w' _
    go_simp
    all_goals with_reducible rfl
  simp only [Act.put, List.getElem_toArray, List.getElem_cons_zero, List.getElem_cons_succ, List.setIfInBounds_toArray, List.set_cons_zero, List.set_cons_succ]
  refine wpAnyK_take (i := 8) (oi := _) (v := ?_) (by rfl) (by kernel_rfl) (by intro _ _ _ h; exact h) HSD.out (Or.inl ⟨by rfl, ?_⟩) ?_
  rotate_left 1
  · intro w' hl
    have l0 := hl.1
    have l1 := hl.2
    clear hl
    go_simp
    all_goals with_reducible rfl
  simp only [Act.put, List.getElem_toArray, List.getElem_cons_zero, List.getElem_cons_succ, List.setIfInBounds_toArray, List.set_cons_zero, List.set_cons_succ]
  refine wpAnyK_pure (i := 9) (oi := _) (v := ?_) (by rfl) (by kernel_rfl) (by intro _ _ _ h; exact h) (Or.inl ⟨by rfl, ?_⟩) ?_
  rotate_left 1
  · intro w' _
    go_simp
    all_goals with_reducible rfl
  simp only [Act.put, List.getElem_toArray, List.getElem_cons_zero, List.getElem_cons_succ, List.setIfInBounds_toArray, List.set_cons_zero, List.set_cons_succ]
  refine wpAnyK_pure (i := 10) (oi := _) (v := ?_) (by rfl) (by kernel_rfl) (by intro _ _ _ h; exact h) (Or.inl ⟨by rfl, ?_⟩) ?_
  rotate_left 1
  · intro w' _
    go_simp
    all_goals with_reducible rfl
  simp only [Act.put, List.getElem_toArray, List.getElem_cons_zero, List.getElem_cons_succ, List.setIfInBounds_toArray, List.set_cons_zero, List.set_cons_succ]
  refine wpAnyK_pure (i := 11) (oi := _) (v := ?_) (by rfl) (by kernel_rfl) (by intro _ _ _ h; exact h) (Or.inl ⟨by rfl, ?_⟩) ?_
  rotate_left 1
  · intro w' _
    go_simp
    all_goals with_reducible rfl
  simp only [Act.put, List.getElem_toArray, List.getElem_cons_zero, List.getElem_cons_succ, List.setIfInBounds_toArray, List.set_cons_zero, List.set_cons_succ]
  refine wpAnyK_take (i := 12) (oi := _) (v := ?_) (by rfl) (by kernel_rfl) (by intro _ _ _ h; exact h) HSD.out (Or.inl ⟨by rfl, ?_⟩) ?_
  rotate_left 1
  · intro w' hl
    have l0 := hl.1
    have l1 := hl.2
    clear hl
    go_simp
    all_goals with_reducible rfl
  simp only [Act.put, List.getElem_toArray, List.getElem_cons_zero, List.getElem_cons_succ, List.setIfInBounds_toArray, List.set_cons_zero, List.set_cons_succ]
  refine wpAnyK_pure (i := 13) (oi := _) (v := ?_) (by rfl) (by kernel_rfl) (by intro _ _ _ h; exact h) (Or.inl ⟨by rfl, ?_⟩) ?_
  rotate_left 1
  · intro w' _
    go_simp
    all_goals with_reducible rfl
  simp only [Act.put, List.getElem_toArray, List.getElem_cons_zero, List.getElem_cons_succ, List.setIfInBounds_toArray, List.set_cons_zero, List.set_cons_succ]
  refine wpAnyK_all (rs := [14]) (by kernel_rfl) (by simp) ?_
  intro ix hix
  simp only [List.mem_cons, List.not_mem_nil, or_false] at hix
  subst hix
  refine wpK_op (o := _) (by rfl) (fun K hK => ?_)
  go_simp
  go_at_call 61
  refine (HFL.out _ (below_drew w)).mono ?_
  rintro e w5 ⟨bk, rfl, hbk, hge, hb5⟩
  have HB5 := Lib.hid ((below_drew w).trans (hb5.mono (below_drew w).size))
  have HBK := Lib.hid hbk
  have HGE : Hid (w.heap.size ≤ bk) := Lib.hid hge
  have HS5 : Hid (S2 Q T o i nn cp kl w5) := Lib.hid ⟨(hb5.cell (p := ⟨Q, 0, none⟩) (World.block_lt_of_cell? _ _ c0)).trans c0, (hb5.cell (p := ⟨T, o + i * 4, none⟩) (World.block_lt_of_cell? _ _ c1)).trans c1⟩
  refine hK _ _ (fun _ _ => HS5.out) ?_
  clear hK K
  try simp only [Act.put, List.getElem_toArray, List.getElem_cons_zero, List.getElem_cons_succ, List.setIfInBounds_toArray, List.set_cons_zero, List.set_cons_succ]
  clear hbk hge hb5
  refine wpAnyK_pure (i := 15) (oi := _) (v := ?_) (by rfl) (by kernel_rfl) (by intro _ _ _ h; exact h) (Or.inl ⟨by rfl, ?_⟩) ?_
  rotate_left 1
  · intro w' _
    go_simp
    all_goals with_reducible rfl
  simp only [Act.put, List.getElem_toArray, List.getElem_cons_zero, List.getElem_cons_succ, List.setIfInBounds_toArray, List.set_cons_zero, List.set_cons_succ]
  refine wpAnyK_pure (i := 16) (oi := _) (v := ?_) (by rfl) (by kernel_rfl) (by intro _ _ _ h; exact h) (Or.inl ⟨by rfl, ?_⟩) ?_
  rotate_left 1
  · intro w' _
    go_simp
    all_goals with_reducible rfl
  simp only [Act.put, List.getElem_toArray, List.getElem_cons_zero, List.getElem_cons_succ, List.setIfInBounds_toArray, List.set_cons_zero, List.set_cons_succ]
  have r3' : w5.cell? ⟨T, o + i * 4 + 3, none⟩ = some (.slice (some ⟨g0, 0, none⟩) n n) := (HB5.out.cell (World.block_lt_of_cell? _ _ r3)).trans r3
  have f3' : w5.frozen? ⟨T, o + i * 4 + 3, none⟩ = false := (HB5.out.frozen (p := ⟨T, o + i * 4 + 3, none⟩) (World.block_lt_of_cell? _ _ r3)).trans f3
  refine wpAnyK_all (rs := [17]) (by kernel_rfl) (by simp) ?_
  intro ix hix
  simp only [List.mem_cons, List.not_mem_nil, or_false] at hix
  subst hix
  refine wpK_op (o := _) (by rfl) (fun K hK => ?_)
  go_simp
  refine hK _ _ (fun h => absurd h (by omega)) ?_
  clear hK K
  try simp only [Act.put, List.getElem_toArray, List.getElem_cons_zero, List.getElem_cons_succ, List.setIfInBounds_toArray, List.set_cons_zero, List.set_cons_succ]
  refine wpAnyK_done (by kernel_rfl) ?_ _
  go_wp2
  go_ret2
  exact ⟨rfl, bk, (HFIN.out _ bk HB5.out HBK.out HGE.out).1, (HFIN.out _ bk HB5.out HBK.out HGE.out).2, HGE.out⟩
set_option maxRecDepth 100000 in
set_option maxHeartbeats 3200000 in
theorem rswap_ne (h : RA Q T o cp k A sl ys PA PC w) {r : Int} {i : Nat} (hw : Live sl r i) {x : Int} {M m cc : Nat} {A' : Option Addr} {l : List Int} (hr : Reads w M 1 A' m (wv l)) (hM : M ≤ w.heap.size) (hm : m ≤ szN (sl.getD i dS).cls) (hx : (sl.getD i dS).ws.getD 0 0 ≠ x) :
    Calls Try.prog 31 #[.pointer (some ⟨Q, 0, none⟩), .int .i64 r, .int .u64 x, .slice A' m cc] w fun e w' => e = .returned (.tuple #[.bool false, .int .i64 0]) ∧ w' = w := by
  have hi := hw.lt
  have HAT := Lib.hid (rat_ok h.c0 h.hA h.row h.len hw)
  have hA1 := h.hA (by omega)
  subst hA1
  have c0 := h.c0
  have c1 := h.row.r0 i hi
  have r3 := h.row.r3 i hi
  have f3 := h.row.fr i hi (o + i * 4 + 3)
  obtain ⟨hb, hl, hc5⟩ := h.wds i hi
  have hle := szN_le (sl.getD i dS).cls
  have hps := szN_pos hc5
  have i0 : (0 : Int) ≤ i := by omega
  have i1 : (i : Int) < sl.length := by omega
  have HFL : Hid (∀ W, Below w.heap.size w W → Calls Try.prog 61 #[.int .i64 ((sl.getD i dS).cls : Nat), .slice A' m cc] W fun e w' => ∃ b, e = .returned (.slice (some ⟨b, 0, none⟩) (szN (sl.getD i dS).cls) (szN (sl.getD i dS).cls)) ∧ w'.heap[b]? = some (.cells (wv (fillL (szN (sl.getD i dS).cls) l)).toArray 35 (0, 0)) ∧ W.heap.size ≤ b ∧ Below W.heap.size W w') := Lib.hid (fun W hW => rfill_any _ hc5 W (hr.below (hW.mono hM)) (by have := hW.size; omega) hm)
  have HSZ := Lib.hid (fun W => rsize_in _ hc5 W)
  have hmi : ¬ ((m : Nat) : Int) > (szN (sl.getD i dS).cls : Nat) := by omega
  have hll : l.length = m := by have := hr.1; rw [wv_len] at this; omega
  have HFIN : Hid (∀ W bk, Below w.heap.size w W → W.heap[bk]? = some (.cells (wv (fillL (szN (sl.getD i dS).cls) l)).toArray 35 (0, 0)) → w.heap.size ≤ bk → RA Q T o cp k (some ⟨T, o, none⟩) (sl.set i { sl.getD i dS with blk := bk, ws := fillL (szN (sl.getD i dS).cls) l }) ys PA PC (W.setCell ⟨T, o + i * 4 + 3, none⟩ (.slice (some ⟨bk, 0, none⟩) (szN (sl.getD i dS).cls) (szN (sl.getD i dS).cls))) ∧ RMv Q T w (W.setCell ⟨T, o + i * 4 + 3, none⟩ (.slice (some ⟨bk, 0, none⟩) (szN (sl.getD i dS).cls) (szN (sl.getD i dS).cls)))) := Lib.hid (fun W bk hW hbk hge =>
    ⟨(h.on hW).setWs hi (fillL_len (by omega)) hbk (by have := h.tl (by omega); omega) (by have := h.ql; omega), ⟨hW.os, hW.tape, hW.output, by simpa using hW.size, fun b hb hq ht => (heap_far _ _ _ ht).trans (hW.block b hb)⟩⟩)
  have hword : w.cell? ⟨(sl.getD i dS).blk, 0, none⟩ = some (.int .u64 ((sl.getD i dS).ws.getD 0 0)) := by
    rw [cell_of hb]
    have hne : 0 < (sl.getD i dS).ws.length := by omega
    generalize (sl.getD i dS).ws = lw at *
    cases lw with
    | nil => simp at hne
    | cons y t => rfl
  generalize hy : (sl.getD i dS).ws.getD 0 0 = y at *
  have hxx : (y != x) = true := by simpa using hx
  clear h hw hr hb hl hc5 hll hy hx
  generalize szN (sl.getD i dS).cls = n at *
  generalize (sl.getD i dS).blk = g0 at *
  generalize ((sl.getD i dS).cls : Nat) = kl at *
  obtain ⟨nn, hnn⟩ : ∃ nn, nn = sl.length := ⟨_, rfl⟩
  rw [← hnn] at c0 i1
  have n0 : (0 : Int) < n := by omega
  go_enter Try.func31, Try.ntmps31
  go_wp2_with (first
    | (go_at_call 59; refine HAT.out.mono ?_; rintro e w9 ⟨rfl, hh⟩; replace hh := hh.symm; subst hh)
    | (go_at_call 32; refine (HSZ.out _).mono ?_; rintro e w9 ⟨rfl, hh⟩; replace hh := hh.symm; subst hh)
    | fail)
  go_ret2
  exact ⟨rfl, rfl⟩
set_option maxRecDepth 100000 in
set_option maxHeartbeats 1600000 in
theorem rstore_big (h : RA Q T o cp k A sl ys PA PC w) {r : Int} {i : Nat} (hw : Live sl r i) (A' : Option Addr) (m cc : Nat) (hm : szN (sl.getD i dS).cls < m) :
    Calls Try.prog 30 #[.pointer (some ⟨Q, 0, none⟩), .int .i64 r, .slice A' m cc] w fun e w' => e = .returned (.int .i64 1) ∧ w' = w := by
  have hi := hw.lt
  have HAT := Lib.hid (rat_ok h.c0 h.hA h.row h.len hw)
  have hA1 := h.hA (by omega)
  subst hA1
  have c0 := h.c0
  have c1 := h.row.r0 i hi
  have i0 : (0 : Int) ≤ i := by omega
  have i1 : (i : Int) < sl.length := by omega
  have HSZ := Lib.hid (fun W => rsize_in _ (h.wds i hi).2.2 W)
  have hmi : ((m : Nat) : Int) > (szN (sl.getD i dS).cls : Nat) := by omega
  clear h hw hm
  generalize szN (sl.getD i dS).cls = n at *
  generalize ((sl.getD i dS).cls : Nat) = kl at *
  generalize sl.length = nn at *
  go_enter Try.func30, Try.ntmps30
  go_wp2_with (first
    | (go_at_call 59; refine HAT.out.mono ?_; rintro e w9 ⟨rfl, hh⟩; replace hh := hh.symm; subst hh)
    | (go_at_call 32; refine (HSZ.out _).mono ?_; rintro e w9 ⟨rfl, hh⟩; replace hh := hh.symm; subst hh)
    | fail)
  go_ret
  exact ⟨rfl, rfl⟩
set_option maxRecDepth 100000 in
set_option maxHeartbeats 1600000 in
theorem rswap_big (h : RA Q T o cp k A sl ys PA PC w) {r : Int} {i : Nat} (hw : Live sl r i) (x : Int) (A' : Option Addr) (m cc : Nat) (hm : szN (sl.getD i dS).cls < m) :
    Calls Try.prog 31 #[.pointer (some ⟨Q, 0, none⟩), .int .i64 r, .int .u64 x, .slice A' m cc] w fun e w' => e = .returned (.tuple #[.bool false, .int .i64 1]) ∧ w' = w := by
  have hi := hw.lt
  have HAT := Lib.hid (rat_ok h.c0 h.hA h.row h.len hw)
  have hA1 := h.hA (by omega)
  subst hA1
  have c0 := h.c0
  have c1 := h.row.r0 i hi
  have i0 : (0 : Int) ≤ i := by omega
  have i1 : (i : Int) < sl.length := by omega
  have HSZ := Lib.hid (fun W => rsize_in _ (h.wds i hi).2.2 W)
  have hmi : ((m : Nat) : Int) > (szN (sl.getD i dS).cls : Nat) := by omega
  clear h hw hm
  generalize szN (sl.getD i dS).cls = n at *
  generalize ((sl.getD i dS).cls : Nat) = kl at *
  generalize sl.length = nn at *
  go_enter Try.func31, Try.ntmps31
  go_wp2_with (first
    | (go_at_call 59; refine HAT.out.mono ?_; rintro e w9 ⟨rfl, hh⟩; replace hh := hh.symm; subst hh)
    | (go_at_call 32; refine (HSZ.out _).mono ?_; rintro e w9 ⟨rfl, hh⟩; replace hh := hh.symm; subst hh)
    | fail)
  go_ret2
  exact ⟨rfl, rfl⟩
end
end Go.Proofs.Ytndmpdpmfieacaa

namespace Go.Proofs.Ytndmpdpmfieacaa
open Go.RowKit Go.WideShapes Go.ChangeShapes
set_option linter.all false
section
variable {Q T o cp k : Nat} {A : Option Addr} {sl : List Sl} {ys : Nat → List Int} {PA : Nat → Option Addr} {PC : Nat → Nat} {w w' : World}
set_option maxRecDepth 100000 in
set_option maxHeartbeats 800000 in
theorem ralloc_bad (a : Value) (c : Int) (A' : Option Addr) (m cc : Nat) (w : World) (hc : c < 0 ∨ 5 ≤ c) : Calls Try.prog 28 #[a, .int .i64 c, .slice A' m cc] w fun e w' => e = .returned (.tuple #[.int .i64 0, .int .i64 1]) ∧ w' = w := by
  have HSZ := Lib.hid (fun W => rsize_out c hc W)
  rcases hc with hc | hc
  all_goals
    go_enter Try.func28, Try.ntmps28
    go_wp2_with (first
      | (go_at_call 32; refine (HSZ.out _).mono ?_; rintro e w9 ⟨rfl, hh⟩; replace hh := hh.symm; subst hh)
      | fail)
    go_ret2
    exact ⟨rfl, rfl⟩
set_option maxRecDepth 100000 in
set_option maxHeartbeats 800000 in
theorem ralloc_long (a : Value) (c : Nat) (A' : Option Addr) (m cc : Nat) (w : World) (hc : c < 5) (hm : szN c < m) : Calls Try.prog 28 #[a, .int .i64 (c : Nat), .slice A' m cc] w fun e w' => e = .returned (.tuple #[.int .i64 0, .int .i64 1]) ∧ w' = w := by
  have HSZ := Lib.hid (fun W => rsize_in c hc W)
  have hmi : ((m : Nat) : Int) > (szN c : Nat) := by omega
  have c1 : ¬ ((c : Nat) : Int) < 0 := by omega
  have c2 : ¬ ((c : Nat) : Int) ≥ 5 := by omega
  clear hc hm
  generalize szN c = n at *
  go_enter Try.func28, Try.ntmps28
  go_wp2_with (first
    | (go_at_call 32; refine (HSZ.out _).mono ?_; rintro e w9 ⟨rfl, hh⟩; replace hh := hh.symm; subst hh)
    | fail)
  go_ret2
  exact ⟨rfl, rfl⟩
set_option maxRecDepth 100000 in
set_option maxHeartbeats 800000 in
theorem ralloc_full (h : RA Q T o cp k A sl ys PA PC w) {c : Nat} (hc : c < 5) (A' : Option Addr) (m cc : Nat) (hm : m ≤ szN c) (hy : ys c = []) : Calls Try.prog 28 #[.pointer (some ⟨Q, 0, none⟩), .int .i64 (c : Nat), .slice A' m cc] w fun e w' => e = .returned (.tuple #[.int .i64 0, .int .i64 2]) ∧ w' = w := by
  have HSZ := Lib.hid (fun W => rsize_in c hc W)
  have hmi : ¬ ((m : Nat) : Int) > (szN c : Nat) := by omega
  have c1 : ¬ ((c : Nat) : Int) < 0 := by omega
  have c2 : ¬ ((c : Nat) : Int) ≥ 5 := by omega
  have c3 : (0 : Int) ≤ c := by omega
  have c4 : (c : Int) < 5 := by omega
  have hp := h.pl c hc
  rw [hy] at hp
  have HTK := Lib.hid (rtake_no Q (1 + c * 2) 0 k (PA c) (PC c) w hp)
  clear h hc hm hy hp
  generalize szN c = n at *
  go_enter Try.func28, Try.ntmps28
  go_wp2_with (first
    | (go_at_call 32; refine (HSZ.out _).mono ?_; rintro e w9 ⟨rfl, hh⟩; replace hh := hh.symm; subst hh)
    | (go_at_call 60; refine HTK.out.mono ?_; rintro e w9 ⟨rfl, hh⟩; replace hh := hh.symm; subst hh)
    | fail)
  go_ret2
  exact ⟨rfl, rfl⟩
set_option maxRecDepth 100000 in
set_option maxHeartbeats 3200000 in
theorem ralloc_ok (h : RA Q T o cp k A sl ys PA PC w) {c i : Nat} (hc : c < 5) {l' : List Int} (hy : ys c = ((i : Nat) : Int) :: l') (hi : i < sl.length) (hic : (sl.getD i dS).cls = c) {M m cc : Nat} {A' : Option Addr} {l : List Int} (hr : Reads w M 1 A' m (wv l)) (hM : M ≤ w.heap.size) (hfar : ∀ ad, A' = some ad → 0 < m → ad.block ≠ Q ∧ ad.block ≠ T) (hm : m ≤ szN c) :
    Calls Try.prog 28 #[.pointer (some ⟨Q, 0, none⟩), .int .i64 (c : Nat), .slice A' m cc] w fun e w' => e = .returned (.tuple #[.int .i64 (refV (i : Nat) ((sl.getD i dS).gen : Nat) (((c : Nat) : Int) == 0)), .int .i64 0]) ∧ ∃ bk PA' PC', RA Q T o cp k A (sl.set i { sl.getD i dS with live := true, blk := bk, ws := fillL (szN c) l }) (up ys c l') PA' PC' w' ∧ RMv Q T w w' ∧ w.heap.size ≤ bk ∧ RP PA PA' w := by
  have HSZ := Lib.hid (fun W => rsize_in c hc W)
  have hmi : ¬ ((m : Nat) : Int) > (szN c : Nat) := by omega
  have c1 : ¬ ((c : Nat) : Int) < 0 := by omega
  have c2 : ¬ ((c : Nat) : Int) ≥ 5 := by omega
  have c3 : (0 : Int) ≤ c := by omega
  have c4 : (c : Int) < 5 := by omega
  have hp := h.pl c hc
  rw [hy] at hp
  have hyl := h.yl c hc
  rw [hy] at hyl
  have hyl2 : l'.length ≤ 1024 := by simp at hyl; omega
  have hA1 := h.hA (by omega)
  subst hA1
  have HTK : Hid (Calls Try.prog 60 #[.pointer (some ⟨Q, 1 + c * 2, none⟩)] w fun e w' => e = .returned (.tuple #[.int .i64 ((i : Nat) : Int), .bool true]) ∧ ∃ PA' PC', RA Q T o cp k (some ⟨T, o, none⟩) sl (up ys c l') PA' PC' w' ∧ RMv Q T w w' ∧ RP PA PA' w) := Lib.hid (by
    refine (rtake_yes Q (1 + c * 2) 0 k ((i : Nat) : Int) (PA c) (PC c) l' w hp (by omega) (h.pcm c hc)).mono ?_
    rintro e w2 ⟨rfl, h2, hk⟩
    have hsub : ∀ ad, (if PC c = 1 then PA c else (PA c).map (·.add 1)) = some ad → ∃ a, PA c = some a ∧ a.block = ad.block := fun ad e => by
      split at e
      · exact ⟨ad, e, rfl⟩
      · cases hpa : PA c with
        | none => rw [hpa] at e; cases e
        | some a => rw [hpa] at e; simp only [Option.map_some, Option.some.injEq] at e; exact ⟨a, rfl, by rw [← e, block_of_add]⟩
    refine ⟨rfl, _, _, h.pool h2 hk (fun ad e => ?_) (by have := h.pcm c hc; omega) hyl2 (fun ad e => by obtain ⟨a, ea, eb⟩ := hsub ad e; rw [← eb]; exact Nat.lt_of_lt_of_le (h.pb c hc a ea) hk.size), ⟨hk.os, hk.tape, hk.output, hk.size, fun b hb hq _ => hk.block b hb hq⟩, fun d hd ad e => ?_⟩
    · obtain ⟨a, ea, eb⟩ := hsub ad e
      rw [← eb]; exact h.pt c hc a ea
    · by_cases e2 : d = c
      · subst e2; rw [up_same] at e; exact .inl (hsub ad e)
      · rw [up_other _ _ e2] at e; exact .inl ⟨ad, e, rfl⟩)
  have hll : l.length = m := by have := hr.1; rw [wv_len] at this; omega
  have hls : l.length ≤ szN c := by omega
  have HRD : Hid (∀ W, RMv Q T w W → Reads W M 1 A' m (wv l)) := Lib.hid (fun W hW => ⟨hr.1, fun hn => by
    obtain ⟨ad, e, hb, hcell⟩ := hr.2 hn
    refine ⟨ad, e, hb, fun j u hu => ?_⟩
    have e2 := hW.block ad.block (by omega) (hfar ad e hn).1 (hfar ad e hn).2
    have := World.cell?_of_block (a := ad.add j) (w := w) (w' := W) (by rw [block_of_add]; exact e2)
    rw [this]; exact hcell j u hu⟩)
  have HFL : Hid (∀ W, RMv Q T w W → Calls Try.prog 61 #[.int .i64 (c : Nat), .slice A' m cc] W fun e w' => ∃ b, e = .returned (.slice (some ⟨b, 0, none⟩) (szN c) (szN c)) ∧ w'.heap[b]? = some (.cells (wv (fillL (szN c) l)).toArray 35 (0, 0)) ∧ W.heap.size ≤ b ∧ Below W.heap.size W w') := Lib.hid (fun W hW => rfill_any c hc W (HRD.out W hW) (by have := hW.size; omega) hm)
  have HIC := Lib.hid hic
  have HI := Lib.hid hi
  have HLS := Lib.hid hls
  have HL4 := Lib.hid h.len
  have HHT := Lib.hid (h.tl (by omega))
  have HHQ := Lib.hid h.ql
  have i0 : (0 : Int) ≤ i := by omega
  have i1 : (i : Int) < sl.length := by omega
  clear h hy hi hic hr hM hfar hm hp hyl hyl2 hll hls HRD
  go_enter Try.func28, Try.ntmps28
  go_upto_region 6 with (first
    | (go_at_call 32; refine (HSZ.out _).mono ?_; rintro e w9 ⟨rfl, hh⟩; replace hh := hh.symm; subst hh)
    | (go_at_call 60; refine HTK.out.mono ?_; rintro e w2 ⟨rfl, PA2, PC2, hra, hmv, hrp⟩
       have HRA := Lib.hid hra
       have HRP := Lib.hid hrp
       have HMV := Lib.hid hmv
       clear hra hmv hrp)
    | fail)
  have c0 := HRA.out.c0
  have r1 := HRA.out.row.r1 i HI.out
  have r2 := HRA.out.row.r2 i HI.out
  have r3 := HRA.out.row.r3 i HI.out
  have f2 := HRA.out.row.fr i HI.out (o + i * 4 + 2)
  have f3 := HRA.out.row.fr i HI.out (o + i * 4 + 3)
  rw [HIC.out] at r3
  obtain ⟨gn, hgn⟩ : ∃ gn, gn = (sl.getD i dS).gen := ⟨_, rfl⟩
  obtain ⟨lv, hlv⟩ : ∃ lv, lv = (sl.getD i dS).live := ⟨_, rfl⟩
  obtain ⟨g0, hg0⟩ : ∃ g0, g0 = (sl.getD i dS).blk := ⟨_, rfl⟩
  obtain ⟨nn, hnn⟩ : ∃ nn, nn = sl.length := ⟨_, rfl⟩
  rw [← hgn] at r1
  have HGN := Lib.hid hgn
  rw [← hlv] at r2
  rw [← hg0] at r3
  rw [← hnn] at c0 i1
  clear hgn hlv hg0 hnn
  go_upto_region 8 with (first
    | (go_at_call 61; refine (HFL.out _ HMV.out).mono ?_; rintro e w3 ⟨bk, rfl, hbk, hge, hb3⟩
       have HBK := Lib.hid hbk
       have HGE := Lib.hid hge
       have HB3 := Lib.hid hb3
       have r1' : w3.cell? ⟨T, o + i * 4 + 1, none⟩ = some (.int .i64 (gn : Nat)) := (hb3.cell (World.block_lt_of_cell? _ _ r1)).trans r1
       have r2' : w3.cell? ⟨T, o + i * 4 + 2, none⟩ = some (.bool lv) := (hb3.cell (World.block_lt_of_cell? _ _ r2)).trans r2
       have r3' : w3.cell? ⟨T, o + i * 4 + 3, none⟩ = some (.slice (some ⟨g0, 0, none⟩) (szN c) (szN c)) := (hb3.cell (World.block_lt_of_cell? _ _ r3)).trans r3
       have f2' : w3.frozen? ⟨T, o + i * 4 + 2, none⟩ = false := (hb3.frozen (p := ⟨T, o + i * 4 + 2, none⟩) (World.block_lt_of_cell? _ _ r2)).trans f2
       have f3' : w3.frozen? ⟨T, o + i * 4 + 3, none⟩ = false := (hb3.frozen (p := ⟨T, o + i * 4 + 3, none⟩) (World.block_lt_of_cell? _ _ r3)).trans f3
       clear hbk hge hb3 c0 r1 r2 r3 f2 f3)
    | fail)
  go_wp2_with (first
    | (go_at_call 62; refine (rref_c _ _ _ _).mono ?_; rintro e w9 ⟨rfl, hh⟩; subst hh)
    | fail)
  go_ret2
  rw [HGN.out]
  have hra := HRA.out.on HB3.out
  have hi := HI.out
  have h1 := hra.setLive hi true
  have hT3 : T < w3.heap.size := by have := HHT.out; have := HMV.out.size; have := HB3.out.size; omega
  have hbT : bk ≠ T := by have := HGE.out; have := HMV.out.size; have := HHT.out; omega
  have hbQ : bk ≠ Q := by have := HGE.out; have := HMV.out.size; have := HHQ.out; omega
  have hgi : (sl.set i { sl.getD i dS with live := true }).getD i dS = { sl.getD i dS with live := true } := by rw [getD_set hi, if_pos rfl]
  have h2 := h1.setWs (i := i) (b := bk) (by rw [List.length_set]; exact hi) (l := fillL (szN c) l) (by rw [hgi]; show _ = szN (sl.getD i dS).cls; rw [HIC.out]; exact fillL_len HLS.out) ((heap_far _ _ _ hbT).trans HBK.out) hbT hbQ
  rw [hgi, List.set_set] at h2
  have hcl : szN ({ sl.getD i dS with live := true } : Sl).cls = szN c := by show szN (sl.getD i dS).cls = _; rw [HIC.out]
  rw [hcl] at h2
  refine ⟨rfl, bk, PA2, PC2, h2, ⟨HB3.out.os.trans HMV.out.os, HB3.out.tape.trans HMV.out.tape, HB3.out.output.trans HMV.out.output, by have := HMV.out.size; have := HB3.out.size; simp; omega, fun b hb hq ht => ?_⟩, by have := HGE.out; have := HMV.out.size; omega, HRP.out⟩
  rw [heap_far _ _ _ (by exact ht), heap_far _ _ _ (by exact ht)]
  exact (HB3.out.block b (by have := HMV.out.size; omega)).trans (HMV.out.block b hb hq ht)
end
end Go.Proofs.Ytndmpdpmfieacaa

namespace Go.Proofs.Ytndmpdpmfieacaa
open Go.RowKit Go.WideShapes Go.ChangeShapes
set_option linter.all false
def S1 (T x kl : Nat) (W : World) : Prop := W.cell? ⟨T, x, none⟩ = some (.int .i64 (kl : Nat))
theorem RMv.refl (Q T : Nat) (w : World) : RMv Q T w w := ⟨rfl, rfl, rfl, Nat.le_refl _, fun _ _ _ _ => rfl⟩
theorem RMv.trans {Q T : Nat} {w w1 w2 : World} (h : RMv Q T w w1) (h' : RMv Q T w1 w2) : RMv Q T w w2 :=
  ⟨h'.os.trans h.os, h'.tape.trans h.tape, h'.output.trans h.output, Nat.le_trans h.size h'.size, fun b hb hq ht => (h'.block b (Nat.lt_of_lt_of_le hb h.size) hq ht).trans (h.block b hb hq ht)⟩
theorem RMv.of_below {Q T : Nat} {w w1 : World} (h : Below w.heap.size w w1) : RMv Q T w w1 := ⟨h.os, h.tape, h.output, h.size, fun b hb _ _ => h.block b hb⟩
theorem RMv.set {Q T : Nat} {w w1 : World} (h : RMv Q T w w1) (x : Nat) (u : Value) : RMv Q T w (w1.setCell ⟨T, x, none⟩ u) :=
  ⟨h.os, h.tape, h.output, by simpa using h.size, fun b hb hq ht => (heap_far _ _ _ (by exact ht)).trans (h.block b hb hq ht)⟩
section
variable {Q T o cp k : Nat} {A : Option Addr} {sl : List Sl} {ys : Nat → List Int} {PA : Nat → Option Addr} {PC : Nat → Nat} {w w' : World}
/-- A Put onto one of its pools. -/
theorem RA.put (h : RA Q T o cp k A sl ys PA PC w) (hk1 : k ≤ 1024) {c i : Nat} (hc : c < 5) (hik : i < k) (hny : ((i : Nat) : Int) ∉ ys c) (hs : (ys c).Pairwise (· < ·)) (hlen : (ys c).length < 1024) (hz : 0 < sl.length) :
    Calls Try.prog 57 #[.pointer (some ⟨Q, 1 + c * 2, none⟩), .int .i64 (i : Nat)] w fun e w' => e = .returned (.bool true) ∧ ∃ y' PA' PC', RA Q T o cp k A sl (up ys c y') PA' PC' w' ∧ RMv Q T w w' ∧ RP PA PA' w ∧ y'.Pairwise (· < ·) ∧ ∀ z, z ∈ y' ↔ z = ((i : Nat) : Int) ∨ z ∈ ys c := by
  have hp := h.pl c hc
  refine (rput_in Q (1 + c * 2) k (i : Nat) (PA c) (PC c) (ys c) w hp (by omega) (by omega) (by omega) hny).mono ?_
  rintro e w2 ⟨rfl, hok⟩
  obtain ⟨j, A', c', hj, hb, ha, hR, hk, hcm, hfar⟩ := PutOk.refp hp hok
  have hl : (insF (ys c) (i : Nat) j).length = (ys c).length + 1 := by unfold insF; simp; omega
  refine ⟨rfl, insF (ys c) (i : Nat) j, _, _, h.pool hR hk (fun ad e => ?_) hcm (by omega) (fun ad e => by obtain ⟨ad', e', hlt, _⟩ := hR.rd.2 (by omega); rw [e] at e'; injection e' with e'; rw [e']; exact hlt), ⟨hk.os, hk.tape, hk.output, hk.size, fun b hb hq _ => hk.block b hb hq⟩, fun d hd ad e => ?_, insF_sorted hs hj hb ha, fun z => insF_mem z⟩
  · have h1 := hfar ad e
    have := h.tl hz
    omega
  · by_cases e2 : d = c
    · subst e2; rw [up_same] at e; exact .inr (hfar ad e)
    · rw [up_other _ _ e2] at e; exact .inl ⟨ad, e, rfl⟩
set_option maxRecDepth 100000 in
set_option maxHeartbeats 1600000 in
theorem rfree_no (h : RA Q T o cp k A sl ys PA PC w) {r : Int} {z : Nat} (hw : Why sl r z) (hz : z = 1 ∨ z = 3 ∨ z = 4) :
    Calls Try.prog 29 #[.pointer (some ⟨Q, 0, none⟩), .int .i64 r] w fun e w' => e = .returned (.int .i64 (z : Nat)) ∧ w' = w := by
  have HA := Lib.hid (rat_no h.c0 h.hA h.row h.len hw)
  have hne : (((z : Nat) : Int) != 0) = true := by simp; omega
  clear h hw hz
  go_enter Try.func29, Try.ntmps29
  go_wp2_with (first
    | (go_at_call 59; refine HA.out.mono ?_; rintro e w9 ⟨rfl, hh⟩; replace hh := hh.symm; subst hh)
    | fail)
  go_ret
  exact ⟨rfl, rfl⟩
/-- A slot that is free again. -/
def rfreed (s : Sl) (bk : Nat) : Sl := { s with live := false, blk := bk, ws := List.replicate (szN s.cls) poisonV, gen := s.gen + 1 }
set_option maxRecDepth 100000 in
set_option maxHeartbeats 3200000 in
theorem rfree_ok (h : RA Q T o cp k A sl ys PA PC w) (hk1 : k ≤ 1024) {r : Int} {i : Nat} (hw : Live sl r i) (hik : i < k) (hg : (sl.getD i dS).gen < 1000000) (hny : ((i : Nat) : Int) ∉ ys (sl.getD i dS).cls) (hs : (ys (sl.getD i dS).cls).Pairwise (· < ·)) (hlen : (ys (sl.getD i dS).cls).length < 1024) :
    Calls Try.prog 29 #[.pointer (some ⟨Q, 0, none⟩), .int .i64 r] w fun e w' => e = .returned (.int .i64 0) ∧ ∃ bk y' PA' PC', RA Q T o cp k A (sl.set i (rfreed (sl.getD i dS) bk)) (up ys (sl.getD i dS).cls y') PA' PC' w' ∧ RMv Q T w w' ∧ w.heap.size ≤ bk ∧ RP PA PA' w ∧ y'.Pairwise (· < ·) ∧ ∀ z, z ∈ y' ↔ z = ((i : Nat) : Int) ∨ z ∈ ys (sl.getD i dS).cls := by
  have hi := hw.lt
  have HAT := Lib.hid (rat_ok h.c0 h.hA h.row h.len hw)
  have hA1 := h.hA (by omega)
  subst hA1
  have c0 := h.c0
  have c1 := h.row.r0 i hi
  have r1 := h.row.r1 i hi
  have r2 := h.row.r2 i hi
  have r3 := h.row.r3 i hi
  have f1 := h.row.fr i hi (o + i * 4 + 1)
  have f2 := h.row.fr i hi (o + i * 4 + 2)
  have f3 := h.row.fr i hi (o + i * 4 + 3)
  have hc5 := (h.wds i hi).2.2
  have HPO := Lib.hid (fun W => rpoison_any _ hc5 W)
  have i0 : (0 : Int) ≤ i := by omega
  have i1 : (i : Int) < sl.length := by omega
  have HRA := Lib.hid h
  have HI := Lib.hid hi
  have HPUT : Hid (∀ W bk, RA Q T o cp k (some ⟨T, o, none⟩) (sl.set i (rfreed (sl.getD i dS) bk)) ys PA PC W → Calls Try.prog 57 #[.pointer (some ⟨Q, 1 + (sl.getD i dS).cls * 2, none⟩), .int .i64 (i : Nat)] W fun e w' => e = .returned (.bool true) ∧ ∃ y' PA' PC', RA Q T o cp k (some ⟨T, o, none⟩) (sl.set i (rfreed (sl.getD i dS) bk)) (up ys (sl.getD i dS).cls y') PA' PC' w' ∧ RMv Q T W w' ∧ RP PA PA' W ∧ y'.Pairwise (· < ·) ∧ ∀ z, z ∈ y' ↔ z = ((i : Nat) : Int) ∨ z ∈ ys (sl.getD i dS).cls) := Lib.hid (fun W bk hW => hW.put hk1 hc5 hik hny hs hlen (by rw [List.length_set]; omega))
  obtain ⟨g2, hg2⟩ : ∃ g2, g2 = (sl.getD i dS).gen + 1 := ⟨_, rfl⟩
  have hgi : (((sl.getD i dS).gen : Nat) : Int) + 1 = (g2 : Nat) := by omega
  have hgw : IntKind.i64.wrap ((g2 : Nat) : Int) = (g2 : Nat) := IntWalk.i64_in _ (by omega)
  have hgl : ((g2 : Nat) : Int) ≤ 1073741824 := by omega
  have HLN : Hid (∀ s, (sl.set i s).length = sl.length) := Lib.hid (fun s => List.length_set ..)
  have HFIN : Hid (∀ W bk, Below w.heap.size w W → W.heap[bk]? = some (.cells (List.replicate (szN (sl.getD i dS).cls) (Value.int .u64 poisonV)).toArray 35 (0, 0)) → w.heap.size ≤ bk → RA Q T o cp k (some ⟨T, o, none⟩) (sl.set i (rfreed (sl.getD i dS) bk)) ys PA PC (((W.setCell ⟨T, o + i * 4 + 2, none⟩ (.bool false)).setCell ⟨T, o + i * 4 + 3, none⟩ (.slice (some ⟨bk, 0, none⟩) (szN (sl.getD i dS).cls) (szN (sl.getD i dS).cls))).setCell ⟨T, o + i * 4 + 1, none⟩ (.int .i64 (g2 : Nat)))) := Lib.hid (fun W bk hW hbk hge => by
    have hbT : bk ≠ T := by have := h.tl (by omega); omega
    have hbQ : bk ≠ Q := by have := h.ql; omega
    have h1 := (h.on hW).setLive hi false
    have e1 : (sl.set i { sl.getD i dS with live := false }).getD i dS = { sl.getD i dS with live := false } := by rw [getD_set hi, if_pos rfl]
    have h2 := h1.setWs (i := i) (b := bk) (by rw [List.length_set]; exact hi) (l := List.replicate (szN (sl.getD i dS).cls) poisonV) (by rw [e1]; simp) ((heap_far _ _ _ hbT).trans (by rw [hbk]; unfold wv; rw [List.map_replicate])) hbT hbQ
    rw [e1, List.set_set] at h2
    have e2 : (sl.set i { sl.getD i dS with live := false, blk := bk, ws := List.replicate (szN (sl.getD i dS).cls) poisonV }).getD i dS = { sl.getD i dS with live := false, blk := bk, ws := List.replicate (szN (sl.getD i dS).cls) poisonV } := by rw [getD_set hi, if_pos rfl]
    have h3 := h2.setGen (i := i) (by rw [List.length_set]; exact hi) g2
    rw [e2, List.set_set] at h3
    rw [hg2] at h3 ⊢
    exact h3)
  have hkc : (((sl.getD i dS).cls : Nat) : Int) < 5 := by omega
  clear h hw hi hik hg hny hs hlen hc5 hg2
  generalize hkl : (sl.getD i dS).cls = kl at *
  have HKLE := Lib.hid hkl
  generalize szN kl = n at *
  obtain ⟨g0, hg0⟩ : ∃ g0, g0 = (sl.getD i dS).blk := ⟨_, rfl⟩
  rw [← hg0] at r3
  obtain ⟨gn, hgn⟩ : ∃ gn, gn = (sl.getD i dS).gen := ⟨_, rfl⟩
  rw [← hgn] at r1 hgi
  obtain ⟨lv, hlv⟩ : ∃ lv, lv = (sl.getD i dS).live := ⟨_, rfl⟩
  rw [← hlv] at r2
  obtain ⟨nn, hnn⟩ : ∃ nn, nn = sl.length := ⟨_, rfl⟩
  rw [← hnn] at c0 i1
  clear hg0 hgn hlv hnn hkl
  have k00 : (0 : Int) ≤ kl := by omega
  go_enter Try.func29, Try.ntmps29
  go_upto_region 8 with (first
    | (go_at_call 59; refine HAT.out.mono ?_; rintro e w9 ⟨rfl, hh⟩; replace hh := hh.symm; subst hh)
    | (go_at_call 58; refine (HPO.out _).mono ?_; rintro e w3 ⟨bk, rfl, hbk, hge, hb3⟩
       have HBK := Lib.hid hbk
       have HGE := Lib.hid hge
       have HB3 := Lib.hid hb3
       have c1' : w3.cell? ⟨T, o + i * 4, none⟩ = some (.int .i64 (kl : Nat)) := (hb3.cell (World.block_lt_of_cell? _ _ c1)).trans c1
       have r1' : w3.cell? ⟨T, o + i * 4 + 1, none⟩ = some (.int .i64 (gn : Nat)) := (hb3.cell (World.block_lt_of_cell? _ _ r1)).trans r1
       have r2' : w3.cell? ⟨T, o + i * 4 + 2, none⟩ = some (.bool lv) := (hb3.cell (World.block_lt_of_cell? _ _ r2)).trans r2
       have r3' : w3.cell? ⟨T, o + i * 4 + 3, none⟩ = some (.slice (some ⟨g0, 0, none⟩) n n) := (hb3.cell (World.block_lt_of_cell? _ _ r3)).trans r3
       have f1' : w3.frozen? ⟨T, o + i * 4 + 1, none⟩ = false := (hb3.frozen (p := ⟨T, o + i * 4 + 1, none⟩) (World.block_lt_of_cell? _ _ r1)).trans f1
       have f2' : w3.frozen? ⟨T, o + i * 4 + 2, none⟩ = false := (hb3.frozen (p := ⟨T, o + i * 4 + 2, none⟩) (World.block_lt_of_cell? _ _ r2)).trans f2
       have f3' : w3.frozen? ⟨T, o + i * 4 + 3, none⟩ = false := (hb3.frozen (p := ⟨T, o + i * 4 + 3, none⟩) (World.block_lt_of_cell? _ _ r3)).trans f3
       clear hbk hge hb3 c0 c1 r1 r2 r3 f1 f2 f3)
    | fail)
  have hra6 := HFIN.out w3 bk HB3.out HBK.out HGE.out
  have hmv6 : RMv Q T w (((w3.setCell ⟨T, o + i * 4 + 2, none⟩ (.bool false)).setCell ⟨T, o + i * 4 + 3, none⟩ (.slice (some ⟨bk, 0, none⟩) n n)).setCell ⟨T, o + i * 4 + 1, none⟩ (.int .i64 (g2 : Nat))) := (((RMv.of_below HB3.out).set _ _).set _ _).set _ _
  generalize (((w3.setCell ⟨T, o + i * 4 + 2, none⟩ (.bool false)).setCell ⟨T, o + i * 4 + 3, none⟩ (.slice (some ⟨bk, 0, none⟩) n n)).setCell ⟨T, o + i * 4 + 1, none⟩ (.int .i64 (g2 : Nat))) = w6 at *
  have HKL : Hid (((sl.set i (rfreed (sl.getD i dS) bk)).getD i dS).cls = kl) := Lib.hid (by rw [getD_set HI.out, if_pos rfl]; exact HKLE.out)
  have HRAd := Lib.hid (hra6.on (below_drew w6))
  have HMVd : Hid (RMv Q T w w6.drew) := Lib.hid (hmv6.trans (RMv.of_below (below_drew w6)))
  have HSD : Hid (S1 T (o + i * 4) kl w6.drew) := Lib.hid (by
    have := HRAd.out.row.r0 i (by rw [HLN.out]; exact HI.out)
    rw [HKL.out] at this
    exact this)
  clear hra6 hmv6 c1' r1' r2' r3' f1' f2' f3'
  refine wp_region_K (S1 T (o + i * 4) kl) 10 (by kernel_rfl) ?_
  refine wpAnyK_pure (i := 0) (oi := _) (v := ?_) (by rfl) (by kernel_rfl) (by intro _ _ _ h; exact h) (Or.inl ⟨by rfl, ?_⟩) ?_
  rotate_left 1
  · intro w' _
    go_simp
    all_goals with_reducible rfl
  simp only [Act.put, List.getElem_toArray, List.getElem_cons_zero, List.getElem_cons_succ, List.setIfInBounds_toArray, List.set_cons_zero, List.set_cons_succ]
  refine wpAnyK_pure (i := 1) (oi := _) (v := ?_) (by rfl) (by kernel_rfl) (by intro _ _ _ h; exact h) (Or.inl ⟨by rfl, ?_⟩) ?_
  rotate_left 1
  · intro w' _
    go_simp
    all_goals with_reducible rfl
  simp only [Act.put, List.getElem_toArray, List.getElem_cons_zero, List.getElem_cons_succ, List.setIfInBounds_toArray, List.set_cons_zero, List.set_cons_succ]
  refine wpAnyK_pure (i := 2) (oi := _) (v := ?_) (by rfl) (by kernel_rfl) (by intro _ _ _ h; exact h) (Or.inl ⟨by rfl, ?_⟩) ?_
  rotate_left 1
  · intro w' _
    go_simp
    all_goals with_reducible rfl
  simp only [Act.put, List.getElem_toArray, List.getElem_cons_zero, List.getElem_cons_succ, List.setIfInBounds_toArray, List.set_cons_zero, List.set_cons_succ]
  refine wpAnyK_pure (i := 3) (oi := _) (v := ?_) (by rfl) (by kernel_rfl) (by intro _ _ _ h; exact h) (Or.inl ⟨by rfl, ?_⟩) ?_
  rotate_left 1
  · intro w' _
    go_simp
    all_goals with_reducible rfl
  simp only [Act.put, List.getElem_toArray, List.getElem_cons_zero, List.getElem_cons_succ, List.setIfInBounds_toArray, List.set_cons_zero, List.set_cons_succ]
  refine wpAnyK_take (i := 4) (oi := _) (v := ?_) (by rfl) (by kernel_rfl) (by intro _ _ _ h; exact h) HSD.out (Or.inl ⟨by rfl, ?_⟩) ?_
  rotate_left 1
  · intro w' hl
    have l0 : w'.cell? ⟨T, o + i * 4, none⟩ = some (.int .i64 (kl : Nat)) := hl
    clear hl
    go_simp
    all_goals with_reducible rfl
  simp only [Act.put, List.getElem_toArray, List.getElem_cons_zero, List.getElem_cons_succ, List.setIfInBounds_toArray, List.set_cons_zero, List.set_cons_succ]
  refine wpAnyK_pure (i := 5) (oi := _) (v := ?_) (by rfl) (by kernel_rfl) (by intro _ _ _ h; exact h) (Or.inl ⟨by rfl, ?_⟩) ?_
  rotate_left 1
  · intro w' _
    go_simp
    all_goals with_reducible rfl
  simp only [Act.put, List.getElem_toArray, List.getElem_cons_zero, List.getElem_cons_succ, List.setIfInBounds_toArray, List.set_cons_zero, List.set_cons_succ]
  refine wpAnyK_pure (i := 6) (oi := _) (v := ?_) (by rfl) (by kernel_rfl) (by intro _ _ _ h; exact h) (Or.inl ⟨by rfl, ?_⟩) ?_
  rotate_left 1
  · intro w' _
    go_simp
    all_goals with_reducible rfl
  simp only [Act.put, List.getElem_toArray, List.getElem_cons_zero, List.getElem_cons_succ, List.setIfInBounds_toArray, List.set_cons_zero, List.set_cons_succ]
  refine wpAnyK_pure (i := 7) (oi := _) (v := ?_) (by rfl) (by kernel_rfl) (by intro _ _ _ h; exact h) (Or.inl ⟨by rfl, ?_⟩) ?_
  rotate_left 1
  · intro w' _
    go_simp
    all_goals with_reducible rfl
  simp only [Act.put, List.getElem_toArray, List.getElem_cons_zero, List.getElem_cons_succ, List.setIfInBounds_toArray, List.set_cons_zero, List.set_cons_succ]
  refine wpAnyK_pure (i := 8) (oi := _) (v := ?_) (by rfl) (by kernel_rfl) (by intro _ _ _ h; exact h) (Or.inl ⟨by rfl, ?_⟩) ?_
  rotate_left 1
  · intro w' _
    go_simp
    all_goals with_reducible rfl
  simp only [Act.put, List.getElem_toArray, List.getElem_cons_zero, List.getElem_cons_succ, List.setIfInBounds_toArray, List.set_cons_zero, List.set_cons_succ]
  refine wpAnyK_all (rs := [9]) (by kernel_rfl) (by simp) ?_
  intro ix hix
  simp only [List.mem_cons, List.not_mem_nil, or_false] at hix
  subst hix
  refine wpK_op (o := _) (by rfl) (fun K hK => ?_)
  go_simp
  go_at_call 57
  refine (HPUT.out _ bk HRAd.out).mono ?_
  rintro e w8 ⟨rfl, y', PA', PC', hra, hmv, hrp, hsr, hme⟩
  have HRP8 := Lib.hid hrp
  have HRA8 := Lib.hid hra
  have HMV8 := Lib.hid hmv
  have HSR8 := Lib.hid hsr
  have HME8 := Lib.hid hme
  have HS8 : Hid (S1 T (o + i * 4) kl w8) := Lib.hid (by
    have := hra.row.r0 i (by rw [HLN.out]; exact HI.out)
    rw [HKL.out] at this
    exact this)
  clear hra hmv hrp hsr hme
  refine hK _ _ (fun _ _ => HS8.out) ?_
  clear hK K
  try simp only [Act.put, List.getElem_toArray, List.getElem_cons_zero, List.getElem_cons_succ, List.setIfInBounds_toArray, List.set_cons_zero, List.set_cons_succ]
  refine wpAnyK_done (by kernel_rfl) ?_ _
  go_wp2
  go_ret
  exact ⟨rfl, bk, y', PA', PC', HRA8.out, HMVd.out.trans HMV8.out, HGE.out, fun d hd ad e => (HRP8.out d hd ad e).imp id (fun h => by have := HMVd.out.size; omega), HSR8.out, HME8.out⟩
end
end Go.Proofs.Ytndmpdpmfieacaa
