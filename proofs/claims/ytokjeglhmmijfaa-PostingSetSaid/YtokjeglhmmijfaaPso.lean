/-
  PostingSet; conditions: lengths.
-/
import Derived.Test.YtokjeglhmmijfaaPsn
import Derived.Deep.RegionHeld3
namespace Go.Proofs.Ytokjeglhmmijfaa
open Go.RowKit Go.WideShapes Go.ChangeShapes
set_option linter.all false
theorem mem_add {L : List (List Nat)} {y : Nat} (h : RL L) (hy : y ≤ 1073741824) (hm : ¬ y ∈ L.flatten) (z : Nat) : z ∈ (addL y L).flatten ↔ z = y ∨ z ∈ L.flatten := by
  obtain ⟨a, b, e1, e2, _⟩ := add_parts h hy hm
  rw [e1, e2]
  simp only [List.mem_append, List.mem_cons]
  constructor
  · rintro (q | q | q)
    · exact .inr (.inl q)
    · exact .inl q
    · exact .inr (.inr q)
  · rintro (q | q | q)
    · exact .inr (.inl q)
    · exact .inl q
    · exact .inr (.inr q)
theorem len_add {L : List (List Nat)} {y : Nat} (h : RL L) (hy : y ≤ 1073741824) (hm : ¬ y ∈ L.flatten) : (addL y L).flatten.length = L.flatten.length + 1 := by
  obtain ⟨a, b, e1, e2, _⟩ := add_parts h hy hm
  rw [e1, e2]; simp; omega
theorem mem_rem {L : List (List Nat)} {y : Nat} (h : RL L) (hm : y ∈ L.flatten) (z : Nat) : z ∈ (remL y L).flatten ↔ ¬ z = y ∧ z ∈ L.flatten := by
  obtain ⟨a, b, e1, e2⟩ := rem_parts h hm
  have ha := h.asc
  rw [e1] at ha
  have h1 := asc_app.1 ha
  have h2 : ∀ x ∈ a, x < y := fun x hx => h1.2.2 x hx y (List.mem_cons_self ..)
  have h3 : ∀ x ∈ b, y < x := fun x hx => by
    have h4 := h1.2.1
    unfold ascB at h4
    rw [Bool.and_eq_true] at h4
    have := asc_ge h4.2 x hx
    omega
  rw [e1, e2]
  simp only [List.mem_append, List.mem_cons]
  constructor
  · rintro (q | q)
    · have := h2 z q; exact ⟨by omega, .inl q⟩
    · have := h3 z q; exact ⟨by omega, .inr (.inr q)⟩
  · rintro ⟨hne, q | q | q⟩
    · exact .inl q
    · exact absurd q hne
    · exact .inr q
theorem len_rem {L : List (List Nat)} {y : Nat} (h : RL L) (hm : y ∈ L.flatten) : (remL y L).flatten.length + 1 = L.flatten.length := by
  obtain ⟨a, b, e1, e2⟩ := rem_parts h hm
  rw [e1, e2]; simp; omega
theorem not_between {l : List Nat} {p z : Nat} (ha : ascB 0 l = true) (hp : p < l.length) (h1 : atK l p ≤ z) (h2 : z < l.getD p 0) : ¬ z ∈ l := by
  intro hz
  obtain ⟨i, hi, e⟩ := List.getElem_of_mem hz
  have e' : l.getD i 0 = z := by rw [List.getD_eq_getElem?_getD, List.getElem?_eq_getElem hi]; exact e
  rcases Nat.lt_or_ge i p with q | q
  · have := atK_lt ha (Nat.le_of_lt hp) i q; omega
  · have := asc_lt ha q hi; omega
theorem not_behind {l : List Nat} {z : Nat} (ha : ascB 0 l = true) (h1 : atK l l.length ≤ z) : ¬ z ∈ l := by
  intro hz
  obtain ⟨i, hi, e⟩ := List.getElem_of_mem hz
  have e' : l.getD i 0 = z := by rw [List.getD_eq_getElem?_getD, List.getElem?_eq_getElem hi]; exact e
  have := atK_lt ha (Nat.le_refl _) i hi; omega
theorem flat_at {L : List (List Nat)} {a b : Nat} (ha : a < L.length) (hb : b < (L.getD a []).length) : (L.take a).flatten.length + b < L.flatten.length ∧ (L.getD a []).getD b 0 = L.flatten.getD ((L.take a).flatten.length + b) 0 := by
  have e : L.flatten = (L.take a).flatten ++ (L.getD a [] ++ (L.drop (a + 1)).flatten) := by
    rw [← drop_flat ha, ← List.flatten_append, List.take_append_drop]
  rw [e]
  constructor
  · rw [List.length_append, List.length_append]; omega
  · rw [getD_append_r, getD_append_l _ _ _ _ hb]
/-- The marks of a list's ids. -/
def Marks (M : Array Value) (L : List (List Nat)) : Prop := M.size = 64 ∧ (∀ z, z < 64 → M[z]? = some (.bool (decide (z ∈ L.flatten)))) ∧ ∀ z ∈ L.flatten, z < 64
theorem Marks.nil : Marks (Array.replicate 64 (.bool false)) [] := ⟨by simp, fun z hz => by simp [hz], by simp⟩
theorem Marks.set {M : Array Value} {L L' : List (List Nat)} {y : Nat} {b : Bool} (h : Marks M L) (hy : y < 64) (hb : b = decide (y ∈ L'.flatten)) (hz : ∀ z, ¬ z = y → (z ∈ L'.flatten ↔ z ∈ L.flatten)) : Marks (M.setIfInBounds y (.bool b)) L' := by
  refine ⟨by simpa using h.1, fun z hz' => ?_, fun z hz' => ?_⟩
  · by_cases e : z = y
    · subst e
      rw [Array.getElem?_setIfInBounds_self_of_lt (by rw [h.1]; exact hy), hb]
    · rw [Array.getElem?_setIfInBounds_ne (fun q => e q.symm), h.2.1 z hz']
      simp only [hz z e]
  · by_cases e : z = y
    · omega
    · exact h.2.2 z ((hz z e).1 hz')
/-- The list in its box beside the marks. -/
structure LS (w : World) (b3 b4 : Nat) (A : Option Addr) (n c : Nat) (L : List (List Nat)) (M : Array Value) (W : World) : Prop where
  bel : Below w.heap.size w W
  ge3 : w.heap.size ≤ b3
  ge4 : w.heap.size ≤ b4
  ne : ¬ b3 = b4
  c3 : W.heap[b3]? = some (.cells #[.slice A n c] 24 (0, 0))
  c4 : W.heap[b4]? = some (.cells M 50 (0, 0))
  pl : PLF W (fun b => b = b3 ∨ b = b4) A n c L
section
variable {w W W' : World} {b3 b4 : Nat} {A A' : Option Addr} {n c n' c' : Nat} {L L' : List (List Nat)} {M : Array Value}
theorem LS.on (h : LS w b3 b4 A n c L M W) (hb : Below W.heap.size W W') : LS w b3 b4 A n c L M W' :=
  ⟨h.bel.trans (hb.mono h.bel.size), h.ge3, h.ge4, h.ne, (hb.block _ (lt_of_heap h.c3)).trans h.c3, (hb.block _ (lt_of_heap h.c4)).trans h.c4, h.pl.on hb⟩
theorem LS.cell (h : LS w b3 b4 A n c L M W) : W.cell? ⟨b3, 0, none⟩ = some (.slice A n c) := by rw [cell_of h.c3]; rfl
theorem LS.fr (h : LS w b3 b4 A n c L M W) : W.frozen? ⟨b3, 0, none⟩ = false := frozen_of h.c3 0
theorem LS.mark (h : LS w b3 b4 A n c L M W) (hM : Marks M L) {y : Nat} (hy : y < 64) : W.cell? ⟨b4, y, none⟩ = some (.bool (decide (y ∈ L.flatten))) := by rw [cell_of h.c4]; exact hM.2.1 y hy
theorem LS.fr4 (h : LS w b3 b4 A n c L M W) (y : Nat) : W.frozen? ⟨b4, y, none⟩ = false := frozen_of h.c4 y
theorem LS.set (h : LS w b3 b4 A n c L M W) (hp : PLF W (fun b => b = b3 ∨ b = b4) A' n' c' L') : LS w b3 b4 A' n' c' L' M (W.setCell ⟨b3, 0, none⟩ (.slice A' n' c')) :=
  ⟨h.bel.setCell h.ge3 _, h.ge3, h.ge4, h.ne, heap_set_one h.c3, (heap_setCell_other _ _ _ _ (fun e => h.ne e.symm)).trans h.c4, hp.far (.inl rfl) _ _⟩
theorem LS.put (h : LS w b3 b4 A n c L M W) (y : Nat) (u : Value) : LS w b3 b4 A n c L (M.setIfInBounds y u) (W.setCell ⟨b4, y, none⟩ u) :=
  ⟨h.bel.setCell h.ge4 _, h.ge3, h.ge4, h.ne, (heap_setCell_other _ _ _ _ h.ne).trans h.c3, heap_setCell_same W b4 y M 50 u h.c4, h.pl.far (.inr rfl) _ _⟩
end
set_option maxRecDepth 100000 in
set_option maxHeartbeats 3200000 in
theorem sets_any (w : World) (A' : Option Addr) (n' c' : Nat) (F : Nat → Nat → Int) (r' : Recs w A' n' 3 F) (hc' : n' ≤ c') (hm' : c' ≤ maxLen) :
    Calls Try.prog 8 #[.slice A' n' c'] w fun e w' => e = .returned (.bool true) ∧ Below w.heap.size w w' := by
  have HR' := Lib.hid r'
  have hc9' : c' ≤ 9223372036854775807 := by unfold maxLen at hm'; omega
  clear r' hm'
  go_enter Try.func8, Try.ntmps8
  go_upto_region 3 with (fail)
  obtain ⟨W0, hW0⟩ : ∃ W0, W0 = (w.alloc (Obj.cells #[Value.slice none 0 0] 24)).alloc (Obj.cells #[Value.bool false, Value.bool false, Value.bool false, Value.bool false, Value.bool false, Value.bool false, Value.bool false, Value.bool false, Value.bool false, Value.bool false, Value.bool false, Value.bool false, Value.bool false, Value.bool false, Value.bool false, Value.bool false, Value.bool false, Value.bool false, Value.bool false, Value.bool false, Value.bool false, Value.bool false, Value.bool false, Value.bool false, Value.bool false, Value.bool false, Value.bool false, Value.bool false, Value.bool false, Value.bool false, Value.bool false, Value.bool false, Value.bool false, Value.bool false, Value.bool false, Value.bool false, Value.bool false, Value.bool false, Value.bool false, Value.bool false, Value.bool false, Value.bool false, Value.bool false, Value.bool false, Value.bool false, Value.bool false, Value.bool false, Value.bool false, Value.bool false, Value.bool false, Value.bool false, Value.bool false, Value.bool false, Value.bool false, Value.bool false, Value.bool false, Value.bool false, Value.bool false, Value.bool false, Value.bool false, Value.bool false, Value.bool false, Value.bool false, Value.bool false] 50) := ⟨_, rfl⟩
  have HL0 : Hid (LS w w.heap.size (w.heap.size + 1) none 0 0 [] #[Value.bool false, Value.bool false, Value.bool false, Value.bool false, Value.bool false, Value.bool false, Value.bool false, Value.bool false, Value.bool false, Value.bool false, Value.bool false, Value.bool false, Value.bool false, Value.bool false, Value.bool false, Value.bool false, Value.bool false, Value.bool false, Value.bool false, Value.bool false, Value.bool false, Value.bool false, Value.bool false, Value.bool false, Value.bool false, Value.bool false, Value.bool false, Value.bool false, Value.bool false, Value.bool false, Value.bool false, Value.bool false, Value.bool false, Value.bool false, Value.bool false, Value.bool false, Value.bool false, Value.bool false, Value.bool false, Value.bool false, Value.bool false, Value.bool false, Value.bool false, Value.bool false, Value.bool false, Value.bool false, Value.bool false, Value.bool false, Value.bool false, Value.bool false, Value.bool false, Value.bool false, Value.bool false, Value.bool false, Value.bool false, Value.bool false, Value.bool false, Value.bool false, Value.bool false, Value.bool false, Value.bool false, Value.bool false, Value.bool false, Value.bool false] W0) := Lib.hid (by
    have e1 := heap_alloc_new (w.alloc (Obj.cells #[Value.slice none 0 0] 24)) (Obj.cells #[Value.bool false, Value.bool false, Value.bool false, Value.bool false, Value.bool false, Value.bool false, Value.bool false, Value.bool false, Value.bool false, Value.bool false, Value.bool false, Value.bool false, Value.bool false, Value.bool false, Value.bool false, Value.bool false, Value.bool false, Value.bool false, Value.bool false, Value.bool false, Value.bool false, Value.bool false, Value.bool false, Value.bool false, Value.bool false, Value.bool false, Value.bool false, Value.bool false, Value.bool false, Value.bool false, Value.bool false, Value.bool false, Value.bool false, Value.bool false, Value.bool false, Value.bool false, Value.bool false, Value.bool false, Value.bool false, Value.bool false, Value.bool false, Value.bool false, Value.bool false, Value.bool false, Value.bool false, Value.bool false, Value.bool false, Value.bool false, Value.bool false, Value.bool false, Value.bool false, Value.bool false, Value.bool false, Value.bool false, Value.bool false, Value.bool false, Value.bool false, Value.bool false, Value.bool false, Value.bool false, Value.bool false, Value.bool false, Value.bool false, Value.bool false] 50)
    have hs : (w.alloc (Obj.cells #[Value.slice none 0 0] 24)).heap.size = w.heap.size + 1 := by simp
    rw [hs] at e1
    rw [hW0]
    exact ⟨(below_alloc _ _).trans ((below_alloc _ _).mono (by simp)), Nat.le_refl _, by omega, by omega, by rw [heap_alloc_old _ _ (by omega)]; exact heap_alloc_new _ _, e1, PLF.nil _ _⟩)
  have HM0 : Hid (Marks #[Value.bool false, Value.bool false, Value.bool false, Value.bool false, Value.bool false, Value.bool false, Value.bool false, Value.bool false, Value.bool false, Value.bool false, Value.bool false, Value.bool false, Value.bool false, Value.bool false, Value.bool false, Value.bool false, Value.bool false, Value.bool false, Value.bool false, Value.bool false, Value.bool false, Value.bool false, Value.bool false, Value.bool false, Value.bool false, Value.bool false, Value.bool false, Value.bool false, Value.bool false, Value.bool false, Value.bool false, Value.bool false, Value.bool false, Value.bool false, Value.bool false, Value.bool false, Value.bool false, Value.bool false, Value.bool false, Value.bool false, Value.bool false, Value.bool false, Value.bool false, Value.bool false, Value.bool false, Value.bool false, Value.bool false, Value.bool false, Value.bool false, Value.bool false, Value.bool false, Value.bool false, Value.bool false, Value.bool false, Value.bool false, Value.bool false, Value.bool false, Value.bool false, Value.bool false, Value.bool false, Value.bool false, Value.bool false, Value.bool false, Value.bool false] []) := Lib.hid ((show Array.replicate 64 (Value.bool false) = #[Value.bool false, Value.bool false, Value.bool false, Value.bool false, Value.bool false, Value.bool false, Value.bool false, Value.bool false, Value.bool false, Value.bool false, Value.bool false, Value.bool false, Value.bool false, Value.bool false, Value.bool false, Value.bool false, Value.bool false, Value.bool false, Value.bool false, Value.bool false, Value.bool false, Value.bool false, Value.bool false, Value.bool false, Value.bool false, Value.bool false, Value.bool false, Value.bool false, Value.bool false, Value.bool false, Value.bool false, Value.bool false, Value.bool false, Value.bool false, Value.bool false, Value.bool false, Value.bool false, Value.bool false, Value.bool false, Value.bool false, Value.bool false, Value.bool false, Value.bool false, Value.bool false, Value.bool false, Value.bool false, Value.bool false, Value.bool false, Value.bool false, Value.bool false, Value.bool false, Value.bool false, Value.bool false, Value.bool false, Value.bool false, Value.bool false, Value.bool false, Value.bool false, Value.bool false, Value.bool false, Value.bool false, Value.bool false, Value.bool false, Value.bool false] from rfl) ▸ Marks.nil)
  rw [← hW0]
  clear hW0
  go_wp2
  go_loopw [5, 6] (fun cnt i wr => ∃ (k m : Nat) (A1 : Option Addr) (n1 c1 : Nat), i = .int .i64 k ∧ cnt = .int .i64 m ∧ k ≤ 200 ∧ m ≤ k ∧ n1 ≤ k ∧ Hid (∃ L M, LS w w.heap.size (w.heap.size + 1) A1 n1 c1 L M wr ∧ RL L ∧ Marks M L ∧ L.flatten.length = m)) (fun _ i _ => 200 - (intOf i).toNat)
  case atStart => exact ⟨0, 0, none, 0, 0, rfl, rfl, Nat.zero_le _, Nat.zero_le _, Nat.zero_le _, Lib.hid ⟨[], _, HL0.out, RL.nil, HM0.out, rfl⟩⟩
  case round =>
    obtain ⟨k, m, A1, n1, c1, rfl, rfl, hk, hm, hn1, HI⟩ := hrel
    obtain ⟨L, M, hLS, hRL, hMK, hCN⟩ := HI.out
    have HLS := Lib.hid hLS
    have HRL := Lib.hid hRL
    have HMK := Lib.hid hMK
    have HCN := Lib.hid hCN
    clear HI hLS hRL hMK hCN
    have q0 := HLS.out.cell
    have k0 : (0 : Int) ≤ k := by omega
    by_cases hkn : k < n' ∧ k < 200
    · obtain ⟨hk1, hk2⟩ := hkn
      obtain ⟨ad', rfl, hbl', hcl⟩ := HR'.out k hk1
      have g0 : wr.cell? (ad'.add (k * 3)) = some (.int .i64 (F k 0)) := (HLS.out.bel.cell (p := ad'.add (k * 3)) (by rw [block_of_add]; exact hbl')).trans (hcl 0 (by omega))
      have g1 : wr.cell? (ad'.add (k * 3 + 1)) = some (.int .i64 (F k 1)) := (HLS.out.bel.cell (p := ad'.add (k * 3 + 1)) (by rw [block_of_add]; exact hbl')).trans (hcl 1 (by omega))
      have e2 : (⟨(ad'.add (k * 3)).block, (ad'.add (k * 3)).off + 1, none⟩ : Addr) = (ad'.add (k * 3)).add 1 := rfl
      have g2 : wr.cell? ⟨(ad'.add (k * 3)).block, (ad'.add (k * 3)).off + 1, none⟩ = some (.int .i64 (F k 1)) := by rw [e2, add_of_add]; exact g1
      clear e2 hcl
      go_upto_region 8 with (first
        | (go_at_call 19; refine (within_nat _ 63 (by omega) _).mono ?_; rintro e w4 ⟨y, rfl, hy, -, rfl⟩)
        | fail)
      have hy64 : y < 64 := by omega
      have y0 : (0 : Int) ≤ y := by omega
      have y1 : (y : Int) < 64 := by omega
      by_cases hin : y ∈ L.flatten
      · have hm1 : 1 ≤ m := by rw [← HCN.out]; exact List.length_pos_of_mem hin
        by_cases hop : F k 0 = 2
        · obtain ⟨L5, hL5⟩ : ∃ L5, L5 = remL y L := ⟨_, rfl⟩
          obtain ⟨m5, hm5⟩ : ∃ m5 : Nat, m5 = m - 1 := ⟨_, rfl⟩
          have HC : Hid (Calls Try.prog 13 #[.agg #[.slice A1 n1 c1], .int .i64 (y : Int)] wr (AddP (fun b => b = w.heap.size ∨ b = w.heap.size + 1) L5 true wr)) := Lib.hid (by rw [hL5]; exact rem_yes wr _ (fun b e => by rcases e with e | e <;> rw [e]; exact lt_of_heap HLS.out.c3; exact lt_of_heap HLS.out.c4) A1 n1 c1 L y HLS.out.pl HRL.out (by omega) (by unfold hasB; exact decide_eq_true ⟨y, hin, rfl⟩))
          have hR5 : RL L5 := by rw [hL5]; exact rem_right HRL.out hin
          have HM5 : Hid (Marks (M.setIfInBounds y (.bool false)) L5) := Lib.hid (by rw [hL5]; exact HMK.out.set hy64 (by rw [decide_eq_false (fun h => ((mem_rem HRL.out hin y).1 h).1 rfl)]) (fun z hz => by rw [mem_rem HRL.out hin z]; exact ⟨fun h => h.2, fun h => ⟨hz, h⟩⟩))
          have hC5 : L5.flatten.length = m5 := by rw [hL5, hm5]; have := len_rem HRL.out hin; rw [HCN.out] at this; omega
          have HC5 := Lib.hid hC5
          have hm9 : m5 ≤ k + 1 := by omega
          have hn9 : L5.length ≤ k + 1 := by have := len_flat hR5; omega
          obtain ⟨n5, hn5⟩ : ∃ n5, n5 = L5.length := ⟨_, rfl⟩
          have hn9 : n5 ≤ k + 1 := by omega
          have hmv : (m : Int) - 1 = (m5 : Int) := by omega
          have HB5 : Hid (false = decide (y ∈ L5.flatten)) := Lib.hid (by have := HM5.out.2.1 y hy64; rw [Array.getElem?_setIfInBounds_self_of_lt (by rw [HMK.out.1]; exact hy64)] at this; simpa using this)
          have HN5 := Lib.hid hn5
          have HR5 := Lib.hid hR5
          clear hL5 hm5 hR5 hC5 hn5
          go_upto_region 22 with (first
            | (go_at_call 13; refine HC.out.mono ?_; rintro e w4 ⟨A4, c4, rfl, hb4, hp4⟩
               rw [← HN5.out] at hp4 ⊢
               have HL4 := Lib.hid (HLS.out.on hb4)
               have HP4 := Lib.hid hp4
               have z0 := HL4.out.cell
               have z1 := HL4.out.fr
               have z2 := HL4.out.mark HMK.out hy64
               have z3 := HL4.out.fr4 y
               rw [decide_eq_true hin] at z2
               clear hb4 hp4)
            | fail)
          try rw [hmv]
          clear hmv
          obtain ⟨W5, hW5⟩ : ∃ W5, W5 = (w4.setCell ⟨w.heap.size, 0, none⟩ (.slice A4 n5 c4)).setCell ⟨w.heap.size + 1, y, none⟩ (.bool false) := ⟨_, rfl⟩
          have HL5 : Hid (LS w w.heap.size (w.heap.size + 1) A4 n5 c4 L5 (M.setIfInBounds y (.bool false)) W5) := Lib.hid (by rw [hW5]; exact (HL4.out.set HP4.out).put y _)
          have HH5 : Hid (hasB (y : Int) L5.flatten = false) := Lib.hid (by rw [HB5.out]; unfold hasB; exact decide_eq_decide.2 ⟨fun ⟨z, hz, e⟩ => by have : z = y := (by omega); exact this ▸ hz, fun h => ⟨y, h, rfl⟩⟩)
          have HY5 : Hid (∀ W, LS w w.heap.size (w.heap.size + 1) A4 n5 c4 L5 (M.setIfInBounds y (.bool false)) W → W.cell? ⟨w.heap.size + 1, y, none⟩ = some (.bool false)) := Lib.hid (fun W h => by have := h.mark HM5.out hy64; rw [← HB5.out] at this; exact this)
          rw [← hW5]
          clear hW5 z0 z1 z2 z3 q0 g0 g1 g2
          have q0 := HL5.out.cell
          have q1 := HY5.out _ HL5.out
          have n9 : n5 ≤ 1000000 := by omega
          go_region_held3 (fun W' => W'.cell? ⟨w.heap.size, 0, none⟩ = some (.slice A4 n5 c4) ∧ W'.cell? ⟨w.heap.size + 1, y, none⟩ = some (.bool false)) (first | (go_keep; done) | exact ⟨HL5.out.cell, HY5.out _ HL5.out⟩) (first
            | (go_at_call 21; refine (has_any A4 n5 c4 L5 _ _ (show LS w w.heap.size (w.heap.size + 1) A4 n5 c4 L5 (M.setIfInBounds y (.bool false)) _ from (by first | exact HL5.out | exact HL5.out.on (below_drew _))).pl.pl HR5.out n9).mono ?_; rw [HH5.out]; rintro e w7 ⟨rfl, hb7⟩
               have HL5 := Lib.hid (show LS w w.heap.size (w.heap.size + 1) A4 n5 c4 L5 (M.setIfInBounds y (.bool false)) _ from (by first | exact HL5.out.on hb7 | exact (HL5.out.on (below_drew _)).on hb7))
               have q0 := HL5.out.cell
               have q1 := HY5.out _ HL5.out
               clear hb7)
            | (go_at_call 15; refine (len_any A4 n5 c4 L5 _ (show LS w w.heap.size (w.heap.size + 1) A4 n5 c4 L5 (M.setIfInBounds y (.bool false)) _ from (by first | exact HL5.out | exact HL5.out.on (below_drew _))).pl.pl HR5.out n9).mono ?_; rw [HC5.out]; rintro e w7 ⟨rfl, hb7⟩
               have HL5 := Lib.hid (show LS w w.heap.size (w.heap.size + 1) A4 n5 c4 L5 (M.setIfInBounds y (.bool false)) _ from (by first | exact HL5.out.on hb7 | exact (HL5.out.on (below_drew _)).on hb7))
               have q0 := HL5.out.cell
               have q1 := HY5.out _ HL5.out
               clear hb7)
            | fail)
          all_goals
            go_wp2
            go_roundw
            case rel => exact ⟨k + 1, m5, A4, n5, c4, by go_num, rfl, by omega, by omega, by omega, Lib.hid ⟨L5, _, HL5.out, HR5.out, HM5.out, HC5.out⟩⟩
            case measure => simp only [intOf]; omega
        · obtain ⟨L5, hL5⟩ : ∃ L5, L5 = L := ⟨_, rfl⟩
          obtain ⟨m5, hm5⟩ : ∃ m5 : Nat, m5 = m := ⟨_, rfl⟩
          have HC : Hid (Calls Try.prog 12 #[.agg #[.slice A1 n1 c1], .int .i64 (y : Int)] wr (AddP (fun b => b = w.heap.size ∨ b = w.heap.size + 1) L5 false wr)) := Lib.hid (by rw [hL5]; exact add_no _ A1 n1 c1 L y wr HLS.out.pl HRL.out (by omega) (.inr (by unfold hasB; exact decide_eq_true ⟨y, hin, rfl⟩)))
          have hR5 : RL L5 := by rw [hL5]; exact HRL.out
          have HM5 : Hid (Marks (M.setIfInBounds y (.bool true)) L5) := Lib.hid (by rw [hL5]; exact HMK.out.set hy64 (by rw [decide_eq_true hin]) (fun z hz => Iff.rfl))
          have hC5 : L5.flatten.length = m5 := by rw [hL5, hm5]; exact HCN.out
          have HC5 := Lib.hid hC5
          have hm9 : m5 ≤ k + 1 := by omega
          have hn9 : L5.length ≤ k + 1 := by have := len_flat hR5; omega
          obtain ⟨n5, hn5⟩ : ∃ n5, n5 = L5.length := ⟨_, rfl⟩
          have hn9 : n5 ≤ k + 1 := by omega
          have hmv : m = m5 := by omega
          have HB5 : Hid (true = decide (y ∈ L5.flatten)) := Lib.hid (by have := HM5.out.2.1 y hy64; rw [Array.getElem?_setIfInBounds_self_of_lt (by rw [HMK.out.1]; exact hy64)] at this; simpa using this)
          have HN5 := Lib.hid hn5
          have HR5 := Lib.hid hR5
          clear hL5 hm5 hR5 hC5 hn5
          go_upto_region 22 with (first
            | (go_at_call 12; refine HC.out.mono ?_; rintro e w4 ⟨A4, c4, rfl, hb4, hp4⟩
               rw [← HN5.out] at hp4 ⊢
               have HL4 := Lib.hid (HLS.out.on hb4)
               have HP4 := Lib.hid hp4
               have z0 := HL4.out.cell
               have z1 := HL4.out.fr
               have z2 := HL4.out.mark HMK.out hy64
               have z3 := HL4.out.fr4 y
               rw [decide_eq_true hin] at z2
               clear hb4 hp4)
            | fail)
          obtain rfl : m5 = m := hmv.symm
          obtain ⟨W5, hW5⟩ : ∃ W5, W5 = (w4.setCell ⟨w.heap.size, 0, none⟩ (.slice A4 n5 c4)).setCell ⟨w.heap.size + 1, y, none⟩ (.bool true) := ⟨_, rfl⟩
          have HL5 : Hid (LS w w.heap.size (w.heap.size + 1) A4 n5 c4 L5 (M.setIfInBounds y (.bool true)) W5) := Lib.hid (by rw [hW5]; exact (HL4.out.set HP4.out).put y _)
          have HH5 : Hid (hasB (y : Int) L5.flatten = true) := Lib.hid (by rw [HB5.out]; unfold hasB; exact decide_eq_decide.2 ⟨fun ⟨z, hz, e⟩ => by have : z = y := (by omega); exact this ▸ hz, fun h => ⟨y, h, rfl⟩⟩)
          have HY5 : Hid (∀ W, LS w w.heap.size (w.heap.size + 1) A4 n5 c4 L5 (M.setIfInBounds y (.bool true)) W → W.cell? ⟨w.heap.size + 1, y, none⟩ = some (.bool true)) := Lib.hid (fun W h => by have := h.mark HM5.out hy64; rw [← HB5.out] at this; exact this)
          rw [← hW5]
          clear hW5 z0 z1 z2 z3 q0 g0 g1 g2
          have q0 := HL5.out.cell
          have q1 := HY5.out _ HL5.out
          have n9 : n5 ≤ 1000000 := by omega
          go_region_held3 (fun W' => W'.cell? ⟨w.heap.size, 0, none⟩ = some (.slice A4 n5 c4) ∧ W'.cell? ⟨w.heap.size + 1, y, none⟩ = some (.bool true)) (first | (go_keep; done) | exact ⟨HL5.out.cell, HY5.out _ HL5.out⟩) (first
            | (go_at_call 21; refine (has_any A4 n5 c4 L5 _ _ (show LS w w.heap.size (w.heap.size + 1) A4 n5 c4 L5 (M.setIfInBounds y (.bool true)) _ from (by first | exact HL5.out | exact HL5.out.on (below_drew _))).pl.pl HR5.out n9).mono ?_; rw [HH5.out]; rintro e w7 ⟨rfl, hb7⟩
               have HL5 := Lib.hid (show LS w w.heap.size (w.heap.size + 1) A4 n5 c4 L5 (M.setIfInBounds y (.bool true)) _ from (by first | exact HL5.out.on hb7 | exact (HL5.out.on (below_drew _)).on hb7))
               have q0 := HL5.out.cell
               have q1 := HY5.out _ HL5.out
               clear hb7)
            | (go_at_call 15; refine (len_any A4 n5 c4 L5 _ (show LS w w.heap.size (w.heap.size + 1) A4 n5 c4 L5 (M.setIfInBounds y (.bool true)) _ from (by first | exact HL5.out | exact HL5.out.on (below_drew _))).pl.pl HR5.out n9).mono ?_; rw [HC5.out]; rintro e w7 ⟨rfl, hb7⟩
               have HL5 := Lib.hid (show LS w w.heap.size (w.heap.size + 1) A4 n5 c4 L5 (M.setIfInBounds y (.bool true)) _ from (by first | exact HL5.out.on hb7 | exact (HL5.out.on (below_drew _)).on hb7))
               have q0 := HL5.out.cell
               have q1 := HY5.out _ HL5.out
               clear hb7)
            | fail)
          all_goals
            go_wp2
            go_roundw
            case rel => exact ⟨k + 1, m5, A4, n5, c4, by go_num, rfl, by omega, by omega, by omega, Lib.hid ⟨L5, _, HL5.out, HR5.out, HM5.out, HC5.out⟩⟩
            case measure => simp only [intOf]; omega
      · by_cases hop : F k 0 = 2
        · obtain ⟨L5, hL5⟩ : ∃ L5, L5 = L := ⟨_, rfl⟩
          obtain ⟨m5, hm5⟩ : ∃ m5 : Nat, m5 = m := ⟨_, rfl⟩
          have HC : Hid (Calls Try.prog 13 #[.agg #[.slice A1 n1 c1], .int .i64 (y : Int)] wr (AddP (fun b => b = w.heap.size ∨ b = w.heap.size + 1) L5 false wr)) := Lib.hid (by rw [hL5]; exact rem_no _ A1 n1 c1 L y wr HLS.out.pl HRL.out (by omega) (has_of_not hin))
          have hR5 : RL L5 := by rw [hL5]; exact HRL.out
          have HM5 : Hid (Marks (M.setIfInBounds y (.bool false)) L5) := Lib.hid (by rw [hL5]; exact HMK.out.set hy64 (by rw [decide_eq_false hin]) (fun z hz => Iff.rfl))
          have hC5 : L5.flatten.length = m5 := by rw [hL5, hm5]; exact HCN.out
          have HC5 := Lib.hid hC5
          have hm9 : m5 ≤ k + 1 := by omega
          have hn9 : L5.length ≤ k + 1 := by have := len_flat hR5; omega
          obtain ⟨n5, hn5⟩ : ∃ n5, n5 = L5.length := ⟨_, rfl⟩
          have hn9 : n5 ≤ k + 1 := by omega
          have hmv : m = m5 := by omega
          have HB5 : Hid (false = decide (y ∈ L5.flatten)) := Lib.hid (by have := HM5.out.2.1 y hy64; rw [Array.getElem?_setIfInBounds_self_of_lt (by rw [HMK.out.1]; exact hy64)] at this; simpa using this)
          have HN5 := Lib.hid hn5
          have HR5 := Lib.hid hR5
          clear hL5 hm5 hR5 hC5 hn5
          go_upto_region 22 with (first
            | (go_at_call 13; refine HC.out.mono ?_; rintro e w4 ⟨A4, c4, rfl, hb4, hp4⟩
               rw [← HN5.out] at hp4 ⊢
               have HL4 := Lib.hid (HLS.out.on hb4)
               have HP4 := Lib.hid hp4
               have z0 := HL4.out.cell
               have z1 := HL4.out.fr
               have z2 := HL4.out.mark HMK.out hy64
               have z3 := HL4.out.fr4 y
               rw [decide_eq_false hin] at z2
               clear hb4 hp4)
            | fail)
          obtain rfl : m5 = m := hmv.symm
          obtain ⟨W5, hW5⟩ : ∃ W5, W5 = (w4.setCell ⟨w.heap.size, 0, none⟩ (.slice A4 n5 c4)).setCell ⟨w.heap.size + 1, y, none⟩ (.bool false) := ⟨_, rfl⟩
          have HL5 : Hid (LS w w.heap.size (w.heap.size + 1) A4 n5 c4 L5 (M.setIfInBounds y (.bool false)) W5) := Lib.hid (by rw [hW5]; exact (HL4.out.set HP4.out).put y _)
          have HH5 : Hid (hasB (y : Int) L5.flatten = false) := Lib.hid (by rw [HB5.out]; unfold hasB; exact decide_eq_decide.2 ⟨fun ⟨z, hz, e⟩ => by have : z = y := (by omega); exact this ▸ hz, fun h => ⟨y, h, rfl⟩⟩)
          have HY5 : Hid (∀ W, LS w w.heap.size (w.heap.size + 1) A4 n5 c4 L5 (M.setIfInBounds y (.bool false)) W → W.cell? ⟨w.heap.size + 1, y, none⟩ = some (.bool false)) := Lib.hid (fun W h => by have := h.mark HM5.out hy64; rw [← HB5.out] at this; exact this)
          rw [← hW5]
          clear hW5 z0 z1 z2 z3 q0 g0 g1 g2
          have q0 := HL5.out.cell
          have q1 := HY5.out _ HL5.out
          have n9 : n5 ≤ 1000000 := by omega
          go_region_held3 (fun W' => W'.cell? ⟨w.heap.size, 0, none⟩ = some (.slice A4 n5 c4) ∧ W'.cell? ⟨w.heap.size + 1, y, none⟩ = some (.bool false)) (first | (go_keep; done) | exact ⟨HL5.out.cell, HY5.out _ HL5.out⟩) (first
            | (go_at_call 21; refine (has_any A4 n5 c4 L5 _ _ (show LS w w.heap.size (w.heap.size + 1) A4 n5 c4 L5 (M.setIfInBounds y (.bool false)) _ from (by first | exact HL5.out | exact HL5.out.on (below_drew _))).pl.pl HR5.out n9).mono ?_; rw [HH5.out]; rintro e w7 ⟨rfl, hb7⟩
               have HL5 := Lib.hid (show LS w w.heap.size (w.heap.size + 1) A4 n5 c4 L5 (M.setIfInBounds y (.bool false)) _ from (by first | exact HL5.out.on hb7 | exact (HL5.out.on (below_drew _)).on hb7))
               have q0 := HL5.out.cell
               have q1 := HY5.out _ HL5.out
               clear hb7)
            | (go_at_call 15; refine (len_any A4 n5 c4 L5 _ (show LS w w.heap.size (w.heap.size + 1) A4 n5 c4 L5 (M.setIfInBounds y (.bool false)) _ from (by first | exact HL5.out | exact HL5.out.on (below_drew _))).pl.pl HR5.out n9).mono ?_; rw [HC5.out]; rintro e w7 ⟨rfl, hb7⟩
               have HL5 := Lib.hid (show LS w w.heap.size (w.heap.size + 1) A4 n5 c4 L5 (M.setIfInBounds y (.bool false)) _ from (by first | exact HL5.out.on hb7 | exact (HL5.out.on (below_drew _)).on hb7))
               have q0 := HL5.out.cell
               have q1 := HY5.out _ HL5.out
               clear hb7)
            | fail)
          all_goals
            go_wp2
            go_roundw
            case rel => exact ⟨k + 1, m5, A4, n5, c4, by go_num, rfl, by omega, by omega, by omega, Lib.hid ⟨L5, _, HL5.out, HR5.out, HM5.out, HC5.out⟩⟩
            case measure => simp only [intOf]; omega
        · obtain ⟨L5, hL5⟩ : ∃ L5, L5 = addL y L := ⟨_, rfl⟩
          obtain ⟨m5, hm5⟩ : ∃ m5 : Nat, m5 = m + 1 := ⟨_, rfl⟩
          have HC : Hid (Calls Try.prog 12 #[.agg #[.slice A1 n1 c1], .int .i64 (y : Int)] wr (AddP (fun b => b = w.heap.size ∨ b = w.heap.size + 1) L5 true wr)) := Lib.hid (by rw [hL5]; exact add_yes wr _ (fun b e => by rcases e with e | e <;> rw [e]; exact lt_of_heap HLS.out.c3; exact lt_of_heap HLS.out.c4) A1 n1 c1 L y HLS.out.pl HRL.out (by omega) (by omega) hin)
          have hR5 : RL L5 := by rw [hL5]; exact add_right HRL.out (by omega) hin
          have HM5 : Hid (Marks (M.setIfInBounds y (.bool true)) L5) := Lib.hid (by rw [hL5]; exact HMK.out.set hy64 (by rw [decide_eq_true ((mem_add HRL.out (by omega) hin y).2 (.inl rfl))]) (fun z hz => by rw [mem_add HRL.out (by omega) hin z]; exact ⟨fun h => h.resolve_left hz, .inr⟩))
          have hC5 : L5.flatten.length = m5 := by rw [hL5, hm5]; have := len_add HRL.out (by omega) hin; rw [HCN.out] at this; exact this
          have HC5 := Lib.hid hC5
          have hm9 : m5 ≤ k + 1 := by omega
          have hn9 : L5.length ≤ k + 1 := by have := len_flat hR5; omega
          obtain ⟨n5, hn5⟩ : ∃ n5, n5 = L5.length := ⟨_, rfl⟩
          have hn9 : n5 ≤ k + 1 := by omega
          have hmv : (m : Int) + 1 = (m5 : Int) := by omega
          have HB5 : Hid (true = decide (y ∈ L5.flatten)) := Lib.hid (by have := HM5.out.2.1 y hy64; rw [Array.getElem?_setIfInBounds_self_of_lt (by rw [HMK.out.1]; exact hy64)] at this; simpa using this)
          have HN5 := Lib.hid hn5
          have HR5 := Lib.hid hR5
          clear hL5 hm5 hR5 hC5 hn5
          go_upto_region 22 with (first
            | (go_at_call 12; refine HC.out.mono ?_; rintro e w4 ⟨A4, c4, rfl, hb4, hp4⟩
               rw [← HN5.out] at hp4 ⊢
               have HL4 := Lib.hid (HLS.out.on hb4)
               have HP4 := Lib.hid hp4
               have z0 := HL4.out.cell
               have z1 := HL4.out.fr
               have z2 := HL4.out.mark HMK.out hy64
               have z3 := HL4.out.fr4 y
               rw [decide_eq_false hin] at z2
               clear hb4 hp4)
            | fail)
          try rw [hmv]
          clear hmv
          obtain ⟨W5, hW5⟩ : ∃ W5, W5 = (w4.setCell ⟨w.heap.size, 0, none⟩ (.slice A4 n5 c4)).setCell ⟨w.heap.size + 1, y, none⟩ (.bool true) := ⟨_, rfl⟩
          have HL5 : Hid (LS w w.heap.size (w.heap.size + 1) A4 n5 c4 L5 (M.setIfInBounds y (.bool true)) W5) := Lib.hid (by rw [hW5]; exact (HL4.out.set HP4.out).put y _)
          have HH5 : Hid (hasB (y : Int) L5.flatten = true) := Lib.hid (by rw [HB5.out]; unfold hasB; exact decide_eq_decide.2 ⟨fun ⟨z, hz, e⟩ => by have : z = y := (by omega); exact this ▸ hz, fun h => ⟨y, h, rfl⟩⟩)
          have HY5 : Hid (∀ W, LS w w.heap.size (w.heap.size + 1) A4 n5 c4 L5 (M.setIfInBounds y (.bool true)) W → W.cell? ⟨w.heap.size + 1, y, none⟩ = some (.bool true)) := Lib.hid (fun W h => by have := h.mark HM5.out hy64; rw [← HB5.out] at this; exact this)
          rw [← hW5]
          clear hW5 z0 z1 z2 z3 q0 g0 g1 g2
          have q0 := HL5.out.cell
          have q1 := HY5.out _ HL5.out
          have n9 : n5 ≤ 1000000 := by omega
          go_region_held3 (fun W' => W'.cell? ⟨w.heap.size, 0, none⟩ = some (.slice A4 n5 c4) ∧ W'.cell? ⟨w.heap.size + 1, y, none⟩ = some (.bool true)) (first | (go_keep; done) | exact ⟨HL5.out.cell, HY5.out _ HL5.out⟩) (first
            | (go_at_call 21; refine (has_any A4 n5 c4 L5 _ _ (show LS w w.heap.size (w.heap.size + 1) A4 n5 c4 L5 (M.setIfInBounds y (.bool true)) _ from (by first | exact HL5.out | exact HL5.out.on (below_drew _))).pl.pl HR5.out n9).mono ?_; rw [HH5.out]; rintro e w7 ⟨rfl, hb7⟩
               have HL5 := Lib.hid (show LS w w.heap.size (w.heap.size + 1) A4 n5 c4 L5 (M.setIfInBounds y (.bool true)) _ from (by first | exact HL5.out.on hb7 | exact (HL5.out.on (below_drew _)).on hb7))
               have q0 := HL5.out.cell
               have q1 := HY5.out _ HL5.out
               clear hb7)
            | (go_at_call 15; refine (len_any A4 n5 c4 L5 _ (show LS w w.heap.size (w.heap.size + 1) A4 n5 c4 L5 (M.setIfInBounds y (.bool true)) _ from (by first | exact HL5.out | exact HL5.out.on (below_drew _))).pl.pl HR5.out n9).mono ?_; rw [HC5.out]; rintro e w7 ⟨rfl, hb7⟩
               have HL5 := Lib.hid (show LS w w.heap.size (w.heap.size + 1) A4 n5 c4 L5 (M.setIfInBounds y (.bool true)) _ from (by first | exact HL5.out.on hb7 | exact (HL5.out.on (below_drew _)).on hb7))
               have q0 := HL5.out.cell
               have q1 := HY5.out _ HL5.out
               clear hb7)
            | fail)
          all_goals
            go_wp2
            go_roundw
            case rel => exact ⟨k + 1, m5, A4, n5, c4, by go_num, rfl, by omega, by omega, by omega, Lib.hid ⟨L5, _, HL5.out, HR5.out, HM5.out, HC5.out⟩⟩
            case measure => simp only [intOf]; omega
    · have hk3 : k < n' ∧ ¬ k < 200 ∨ ¬ k < n' := by omega
      obtain ⟨l, hl⟩ : ∃ l, l = L.flatten := ⟨_, rfl⟩
      have has : ascB 0 l = true := by rw [hl]; exact HRL.out.asc
      have HAS := Lib.hid has
      have HL := Lib.hid hl
      have hln := HLS.out.pl.len
      have HLN : Hid (L.length = n1) := Lib.hid hln
      have n9 : n1 ≤ 1000000 := by omega
      clear has hl hln
      rcases hk3 with ⟨hk4, hk5⟩ | hk4
      all_goals
        go_upto_region 25 with (fail)
        go_wp2_with (first
          | (go_at_call 16; refine (blocks_any A1 n1 c1 L _ HLS.out.pl.pl HRL.out n9).mono ?_; rintro e wB ⟨B3, d3, own, rfl, hb3, ho3, hm3⟩
             rw [HLN.out] at ho3 ⊢
             have HLS := Lib.hid (HLS.out.on hb3)
             have HON : Hid (own.length = n1) := Lib.hid (by have := congrArg List.length hm3; rw [List.length_map, List.length_map, HLN.out] at this; exact this)
             have HO2 := Lib.hid (ho3.lk HON.out)
             have HM3 := Lib.hid hm3
             clear hb3 ho3 hm3)
          | fail)
        have HE2 : Hid (∀ i, i < n1 → (own.getD i dA).l = nb (L.getD i [])) := Lib.hid (fun i hi => HO2.out.el HM3.out i hi)
        clear q0
        obtain ⟨wr, rfl⟩ : ∃ wr : World, wr = wB := ⟨_, rfl⟩
        go_loopw [9, 84] (fun at_ i v1 => ∃ a q : Nat, i = .int .i64 a ∧ a ≤ n1 ∧ at_ = .int .i64 q ∧ q ≤ 64 ∧ Hid (q = atK l (L.take a).flatten.length) ∧ v1 = wr) (fun _ i _ => n1 - (intOf i).toNat)
        case atStart => exact ⟨0, 0, rfl, Nat.zero_le _, rfl, Nat.zero_le _, Lib.hid (by simp [atK]), rfl⟩
        case round =>
          obtain ⟨a, q, rfl, ha, rfl, hq, HQ, rfl⟩ := hrel
          have a0 : (0 : Int) ≤ a := by omega
          by_cases han : a < n1
          · have haL : a < L.length := by rw [HLN.out]; exact han
            obtain ⟨ad, e1, g1, s1⟩ := HO2.out.at_ han
            subst e1
            rw [HE2.out a han] at s1
            obtain ⟨e1, he1⟩ : ∃ e1, e1 = own.getD a dA := ⟨_, rfl⟩
            rw [← he1] at g1 s1
            obtain ⟨B1, m1, d1, l1⟩ := e1
            replace g1 : _ = some (Value.slice B1 m1 d1) := g1
            replace s1 : SK .i64 wr wr.heap.size B1 m1 d1 (nb (L.getD a [])) := s1
            have hml : (L.getD a []).length = m1 := by have := s1.len; rwa [nb_len] at this
            have hbl := HRL.out.len _ (getD_mem haL)
            rw [hml] at hbl
            obtain ⟨p, hp⟩ : ∃ p, p = (L.take a).flatten.length := ⟨_, rfl⟩
            rw [← hp] at HQ
            have HP1 : Hid (p + m1 = (L.take (a + 1)).flatten.length) := Lib.hid (by rw [take_flat haL, List.length_append, ← hp, hml])
            have HG : Hid (∀ b, b < m1 → p + b < l.length ∧ (L.getD a []).getD b 0 = l.getD (p + b) 0) := Lib.hid (fun b hb => by rw [hp, HL.out]; exact flat_at haL (by rw [hml]; exact hb))
            have HML := Lib.hid hml
            have HSK := Lib.hid s1
            have h1 : ¬ (m1 : Int) < 1 := by omega
            have h2 : ¬ (m1 : Int) > 16 := by omega
            have h3 : m1 ≤ 16 := hbl.2
            have a1 : (a : Int) < n1 := by omega
            clear he1 s1 hml hbl hp haL
            go_wp2
            go_loopw [9, 98] (fun at_ i v1 => ∃ b q : Nat, i = .int .i64 b ∧ b ≤ m1 ∧ at_ = .int .i64 q ∧ q ≤ 64 ∧ Hid (q = atK l (p + b)) ∧ v1 = wr) (fun _ i _ => m1 - (intOf i).toNat)
            case atStart => exact ⟨0, q, rfl, Nat.zero_le _, rfl, hq, HQ, rfl⟩
            case round =>
              obtain ⟨b, q, rfl, hb, rfl, hq, HQ, rfl⟩ := hrel
              have b0 : (0 : Int) ≤ b := by omega
              by_cases hbm : b < m1
              · obtain ⟨ad1, rfl, g3⟩ := HSK.out.2.2.2.kat hbm
                obtain ⟨hpl, hg⟩ := HG.out b hbm
                rw [nb_get (by rw [HML.out]; exact hbm), hg] at g3
                obtain ⟨y, hy⟩ : ∃ y, y = l.getD (p + b) 0 := ⟨_, rfl⟩
                rw [← hy] at g3
                have hyl : y ∈ L.flatten := by rw [← HL.out, hy]; exact getD_mem0 hpl
                have hy64 := HMK.out.2.2 y hyl
                have hqy : q ≤ y := by have := atK_le HAS.out hpl; rw [hy, HQ.out]; exact this
                have HBT : Hid (∀ z, q ≤ z → z < y → ¬ z ∈ L.flatten) := Lib.hid (fun z h1 h2 => by rw [← HL.out]; exact not_between HAS.out hpl (by rw [← HQ.out]; exact h1) (by rw [← hy]; exact h2))
                have HY1 : Hid (y + 1 = atK l (p + (b + 1))) := Lib.hid (by rw [hy]; rfl)
                have HYL := Lib.hid hyl
                have b1 : (b : Int) < m1 := by omega
                clear hg hpl hy hyl
                go_wp2
                go_loopw [9] (fun at_ v1 => ∃ z : Nat, at_ = .int .i64 z ∧ q ≤ z ∧ z ≤ y ∧ v1 = wr) (fun at_ _ => 64 - (intOf at_).toNat)
                case atStart => exact ⟨q, rfl, Nat.le_refl _, hqy, rfl⟩
                case round =>
                  obtain ⟨z, rfl, hqz, hzy, rfl⟩ := hrel
                  have hz64 : z < 64 := by omega
                  have z0 : (0 : Int) ≤ z := by omega
                  have z1 : (z : Int) < 64 := by omega
                  have gm := HLS.out.mark HMK.out hz64
                  by_cases hlt : z < y
                  · rw [decide_eq_false (HBT.out z hqz hlt)] at gm
                    go_wp2
                    go_roundw
                    case rel => exact ⟨z + 1, by go_num, by omega, by omega, by trivial⟩
                    case measure => simp only [intOf]; omega
                  · obtain rfl : y = z := by omega
                    rw [decide_eq_true HYL.out] at gm
                    go_wp2
                    go_roundw
                    case rel => exact ⟨b + 1, y + 1, by go_num, by omega, by go_num, by omega, HY1, by trivial⟩
                    case measure => simp only [intOf]; omega
              · obtain rfl : m1 = b := by omega
                go_wp2
                go_roundw
                case rel => exact ⟨a + 1, q, by go_num, by omega, rfl, hq, Lib.hid (by rw [HQ.out, HP1.out]), by trivial⟩
                case measure => simp only [intOf]; omega
          · obtain rfl : n1 = a := by omega
            have HQE : Hid (q = atK l l.length) := Lib.hid (by rw [HQ.out, HL.out, List.take_of_length_le (by rw [HLN.out]; exact Nat.le_refl _)])
            go_wp2
            go_loopw [9] (fun at_ v1 => ∃ z : Nat, at_ = .int .i64 z ∧ q ≤ z ∧ z ≤ 64 ∧ v1 = wr) (fun at_ _ => 64 - (intOf at_).toNat)
            case atStart => exact ⟨q, rfl, Nat.le_refl _, hq, rfl⟩
            case round =>
              obtain ⟨z, rfl, hqz, hz9, rfl⟩ := hrel
              have z0 : (0 : Int) ≤ z := by omega
              by_cases hz64 : z < 64
              · have z1 : (z : Int) < 64 := by omega
                have gm := HLS.out.mark HMK.out hz64
                rw [decide_eq_false (by rw [← HL.out]; exact not_behind HAS.out (by rw [← HQE.out]; exact hqz))] at gm
                go_wp2
                go_roundw
                case rel => exact ⟨z + 1, by go_num, by omega, by omega, by trivial⟩
                case measure => simp only [intOf]; omega
              · have z1 : ¬ (z : Int) < 64 := by omega
                go_wp2_with (first
                  | (go_at_call 3; refine (runs_any _).mono ?_; rintro e w8 ⟨rfl, hb8⟩; have HLS := Lib.hid (HLS.out.on hb8); clear hb8)
                  | fail)
                go_ret
                exact ⟨rfl, HLS.out.bel⟩
end Go.Proofs.Ytokjeglhmmijfaa
