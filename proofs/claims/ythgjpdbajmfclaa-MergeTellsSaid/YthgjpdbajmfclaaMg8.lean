/-
  Init, Fix, Pop as facts on lists; the heads of lists; conditions: lengths.
-/
import Derived.Test.YthgjpdbajmfclaaMg7
namespace Go.Proofs.Ythgjpdbajmfclaa
open Go.RowKit Go.WideShapes Go.ChangeShapes
set_option linter.all false
/-- From place b on each is no less than its parent. -/
def HeapedFrom (b : Nat) (xs : List El) (n : Nat) : Prop := ∀ i, 0 < i → i < n → b ≤ (i - 1) / 2 → kk xs ((i - 1) / 2) ≤ kk xs i
theorem downF_from (n b : Nat) : ∀ (k j : Nat) (xs : List El), b ≤ j → n - j ≤ k → n ≤ xs.length →
    (∀ i, 0 < i → i < n → b ≤ (i - 1) / 2 → (i - 1) / 2 ≠ j → kk xs ((i - 1) / 2) ≤ kk xs i) →
    (0 < j → b ≤ (j - 1) / 2 → ∀ i, 0 < i → i < n → (i - 1) / 2 = j → kk xs ((j - 1) / 2) ≤ kk xs i) →
    HeapedFrom b (downF xs j n) n := by
  intro k
  induction k with
  | zero => intro j xs hb hk hn h1 h2; rw [downF_end _ _ _ (by omega)]; intro i a c d; exact h1 i a c d (by omega)
  | succ k ih =>
    intro j xs hb hk hn h1 h2
    by_cases h : 2 * j + 1 < n
    · have kl := kid_lt xs j n h
      have kg := kid_gt xs j n
      have kp := kid_par xs j n
      by_cases h3 : kk xs (kid xs j n) < kk xs j
      · rw [downF_go _ _ _ h h3]
        have hj : j < xs.length := by omega
        have hq : kid xs j n < xs.length := by omega
        have kle := kid_le xs j n
        generalize kid xs j n = q at *
        refine ih q _ (by omega) (by omega) (by rw [swp_len]; omega) ?_ ?_
        · intro i a c d e
          rw [swp_getD _ _ _ _ hj hq, swp_getD _ _ _ _ hj hq]
          rw [if_neg e]
          by_cases e1 : (i - 1) / 2 = j
          · rw [if_pos e1]
            by_cases e2 : i = q
            · rw [if_pos e2]; omega
            · rw [if_neg e2, if_neg (by omega)]; exact kle i c a e1
          · rw [if_neg e1]
            rw [if_neg (by intro e; subst e; omega)]
            by_cases e3 : i = j
            · rw [if_pos e3]; subst e3; exact h2 a d q (by omega) kl kp
            · rw [if_neg e3]; exact h1 i a c d e1
        · intro h0 d i a c e
          rw [swp_getD _ _ _ _ hj hq, swp_getD _ _ _ _ hj hq]
          rw [kp, if_neg (by omega), if_pos rfl, if_neg (by omega), if_neg (by omega)]
          have := h1 i a c (by omega) (by omega)
          rw [e] at this; exact this
      · rw [downF_stop _ _ _ h h3]
        intro i a c d
        by_cases e : (i - 1) / 2 = j
        · rw [e]; have := kid_le xs j n i c a e; omega
        · exact h1 i a c d e
    · rw [downF_end _ _ _ h]
      intro i a c d
      exact h1 i a c d (by omega)
theorem initF_heaped : ∀ (k : Nat) (xs : List El) (n : Nat), n = xs.length → k ≤ n / 2 → HeapedFrom k xs n → Heaped (initF xs n k) n ∧ (initF xs n k).Perm xs
  | 0, xs, n, hn, _, h => ⟨fun i a b => h i a b (by omega), List.Perm.refl _⟩
  | k + 1, xs, n, hn, hk, h => by
    have hp := downF_perm n n k xs (by omega) (by omega)
    have h1 := downF_from n k n k xs (Nat.le_refl _) (by omega) (by omega) (fun i a b c d => h i a b (by omega)) (fun a b => by omega)
    obtain ⟨h2, h3⟩ := initF_heaped k (downF xs k n) n (by rw [hp.length_eq]; exact hn) (by omega) h1
    exact ⟨h2, h3.trans hp⟩
theorem init_heaped (xs : List El) : Heaped (initF xs xs.length (xs.length / 2)) xs.length ∧ (initF xs xs.length (xs.length / 2)).Perm xs :=
  initF_heaped _ xs _ rfl (Nat.le_refl _) fun i a b c => by omega
theorem kk_set (xs : List El) (i m : Nat) (v : El) (hi : i < xs.length) : kk (xs.set i v) m = if i = m then v.k else kk xs m := by
  unfold kk; rw [getD_set _ _ _ _ hi]; split <;> rfl
theorem fix_heaped {xs : List El} {e : El} (h : Heaped xs xs.length) (h0 : 0 < xs.length) : Heaped (downF (xs.set 0 e) 0 xs.length) xs.length := by
  refine downF_heaped xs.length xs.length 0 (xs.set 0 e) (by omega) (by simp) (fun i a b c => ?_) (fun h => by omega)
  rw [kk_set _ _ _ _ h0, kk_set _ _ _ _ h0, if_neg (by omega), if_neg (by omega)]
  exact h i a b
theorem set0_perm {e x : El} {r : List El} : ((x :: r).set 0 e) = e :: r := rfl
/-- How many numbers wait. -/
def sumN : List El → Nat
  | [] => 0
  | e :: r => e.n + sumN r
theorem sumN_perm {a b : List El} (h : a.Perm b) : sumN a = sumN b := by
  induction h with
  | nil => rfl
  | cons x _ ih => rw [sumN, sumN, ih]
  | swap x y l => simp only [sumN]; omega
  | trans _ _ h1 h2 => exact h1.trans h2
/-- The least of the heads stands at the top. -/
theorem heap_min {H : List El} (h : Heaped H H.length) (h0 : 0 < H.length) (ok : ∀ e ∈ H, e.l ≠ []) : (∀ y, inH H y → kk H 0 ≤ y) ∧ inH H (kk H 0) := by
  refine ⟨fun y hy => ?_, ?_⟩
  · obtain ⟨e, he, hy⟩ := hy
    obtain ⟨i, hi, rfl⟩ := List.mem_iff_getElem.1 he
    have h1 := h.least i hi
    have h2 := asc_least _ y hy
    have e1 : kk H i = H[i].k := by unfold kk; rw [List.getD_eq_getElem?_getD, List.getElem?_eq_getElem hi]; rfl
    rw [e1] at h1
    unfold El.k at h1
    omega
  · refine ⟨H.getD 0 dE, ?_, ?_⟩
    · rw [List.getD_eq_getElem?_getD, List.getElem?_eq_getElem h0]; exact List.getElem_mem h0
    · have h1 : H.getD 0 dE ∈ H := by rw [List.getD_eq_getElem?_getD, List.getElem?_eq_getElem h0]; exact List.getElem_mem h0
      have h2 := ok _ h1
      unfold kk El.k
      cases hl : (H.getD 0 dE).l with
      | nil => exact absurd hl h2
      | cons a r => rw [asc_cons]; simp
theorem top_cons {H : List El} (h0 : 0 < H.length) : ∃ r, H = H.getD 0 dE :: r := by
  cases H with
  | nil => simp at h0
  | cons a r => exact ⟨r, rfl⟩
/-- The top list goes on. -/
theorem top_split {H H' : List El} {e' : El} (h0 : 0 < H.length) (hp : H'.Perm (H.set 0 e')) (hl : (H.getD 0 dE).l ≠ []) (he : e'.l = adv (H.getD 0 dE).l) (y : Int) : inH H y ↔ y = kk H 0 ∨ inH H' y := by
  obtain ⟨r, hr⟩ := top_cons h0
  obtain ⟨a, t, ha⟩ : ∃ a t, (H.getD 0 dE).l = a :: t := by cases hq : (H.getD 0 dE).l with | nil => exact absurd hq hl | cons a t => exact ⟨a, t, rfl⟩
  have hk : kk H 0 = a := by unfold kk El.k; rw [ha]; rfl
  rw [inH_perm hp, hk]
  have hs : H.set 0 e' = e' :: r := by rw [hr]; rfl
  rw [hs]
  conv => lhs; rw [hr]
  simp only [inH, List.mem_cons, exists_eq_or_imp]
  rw [he, ha, asc_cons, List.mem_cons, or_assoc]
theorem top_gone {H H' : List El} (h0 : 0 < H.length) (hp : H.Perm (H.getD 0 dE :: H')) (hl : (H.getD 0 dE).l ≠ []) (he : adv (H.getD 0 dE).l = []) (y : Int) : inH H y ↔ y = kk H 0 ∨ inH H' y := by
  obtain ⟨a, t, ha⟩ : ∃ a t, (H.getD 0 dE).l = a :: t := by cases hq : (H.getD 0 dE).l with | nil => exact absurd hq hl | cons a t => exact ⟨a, t, rfl⟩
  have hk : kk H 0 = a := by unfold kk El.k; rw [ha]; rfl
  rw [inH_perm hp, hk]
  simp only [inH, List.mem_cons, exists_eq_or_imp]
  rw [ha, asc_cons, List.mem_cons]
  rw [ha] at he
  rw [he, asc_nil]
  simp
/-- A list as it comes in. -/
structure Ar where
  A : Option Addr
  n : Nat
  c : Nat
  l : List Int
@[reducible] def Ar.v (e : Ar) : Value := .slice e.A e.n e.c
/-- Lists in a list. -/
def LL (w : World) (B : Nat) (A : Option Addr) (n c : Nat) (ls : List Ar) : Prop := n ≤ c ∧ c ≤ maxLen ∧ (A = none → n = 0) ∧ Reads w B 1 A n (ls.map Ar.v) ∧ ∀ e ∈ ls, SI w B e.A e.n e.c e.l
theorem LL.len {w : World} {B n c : Nat} {A : Option Addr} {ls : List Ar} (h : LL w B A n c ls) : ls.length = n := by have := h.2.2.2.1.1; simp at this; exact this
theorem LL.below {w w' : World} {B n c : Nat} {A : Option Addr} {ls : List Ar} (h : LL w B A n c ls) (hb : Below B w w') : LL w' B A n c ls := ⟨h.1, h.2.1, h.2.2.1, h.2.2.2.1.below hb, fun e he => (h.2.2.2.2 e he).below hb⟩
theorem LL.on {w w' : World} {n c : Nat} {A : Option Addr} {ls : List Ar} (h : LL w w.heap.size A n c ls) (hb : Below w.heap.size w w') : LL w' w'.heap.size A n c ls := ⟨h.1, h.2.1, h.2.2.1, h.2.2.2.1.on hb, fun e he => (h.2.2.2.2 e he).on hb⟩
def dA : Ar := ⟨none, 0, 0, []⟩
theorem LL.at_ {w : World} {B n c k : Nat} {A : Option Addr} {ls : List Ar} (h : LL w B A n c ls) (hk : k < n) : ∃ ad, A = some ad ∧ w.cell? (ad.add k) = some (ls.getD k dA).v ∧ SI w B (ls.getD k dA).A (ls.getD k dA).n (ls.getD k dA).c (ls.getD k dA).l := by
  have hl : k < ls.length := by rw [h.len]; exact hk
  obtain ⟨ad, u, e, _, hu, hc⟩ := h.2.2.2.1.at_ hk
  rw [List.getElem?_map, List.getElem?_eq_getElem hl] at hu
  injection hu with hu
  have e1 : ls.getD k dA = ls[k] := by rw [List.getD_eq_getElem?_getD, List.getElem?_eq_getElem hl]; rfl
  refine ⟨ad, e, by rw [hc, e1, hu], ?_⟩
  rw [e1]; exact h.2.2.2.2 _ (List.getElem_mem hl)
/-- The ones that aren't empty. -/
def el1 (a : Ar) : Option El := match a.A with
  | some ad => if a.n = 0 then none else some ⟨ad, a.n, a.c, a.l⟩
  | none => none
def els (ls : List Ar) : List El := ls.filterMap el1
theorem els_inH {w : World} {B : Nat} {ls : List Ar} (h : ∀ e ∈ ls, SI w B e.A e.n e.c e.l) (y : Int) : inH (els ls) y ↔ ∃ l ∈ ls.map Ar.l, y ∈ asc l := by
  unfold inH els
  constructor
  · rintro ⟨e, he, hy⟩
    obtain ⟨a, ha, hae⟩ := List.mem_filterMap.1 he
    refine ⟨a.l, List.mem_map.2 ⟨a, ha, rfl⟩, ?_⟩
    unfold el1 at hae
    cases hA : a.A with
    | none => rw [hA] at hae; cases hae
    | some ad =>
      rw [hA] at hae
      simp only at hae
      split at hae
      · cases hae
      · injection hae with hae; subst hae; exact hy
  · rintro ⟨l, hl, hy⟩
    obtain ⟨a, ha, rfl⟩ := List.mem_map.1 hl
    have hs := h a ha
    have hlen := hs.len
    have hn : a.n ≠ 0 := by
      intro e
      rw [e] at hlen
      rw [List.eq_nil_of_length_eq_zero hlen, asc_nil] at hy
      simp at hy
    cases hA : a.A with
    | none =>
      have := hs.2.2.1 hA
      have := hs.1
      omega
    | some ad => exact ⟨⟨ad, a.n, a.c, a.l⟩, List.mem_filterMap.2 ⟨a, ha, by unfold el1; rw [hA]; simp [hn]⟩, hy⟩
theorem els_ok {w : World} {B : Nat} {ls : List Ar} (h : ∀ e ∈ ls, SI w B e.A e.n e.c e.l) : ∀ e ∈ els ls, EOk w B e := by
  intro e he
  obtain ⟨a, ha, hae⟩ := List.mem_filterMap.1 he
  have hs := h a ha
  unfold el1 at hae
  cases hA : a.A with
  | none => rw [hA] at hae; cases hae
  | some ad =>
    rw [hA] at hae
    simp only at hae
    split at hae
    · cases hae
    · injection hae with hae
      subst hae
      rw [hA] at hs
      exact ⟨by simp; omega, hs⟩
theorem els_len (ls : List Ar) : (els ls).length ≤ ls.length := List.length_filterMap_le _ _
end Go.Proofs.Ythgjpdbajmfclaa
