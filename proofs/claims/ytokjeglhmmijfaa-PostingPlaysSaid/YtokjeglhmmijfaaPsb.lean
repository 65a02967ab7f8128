/-
  posting.Add; conditions: a right list.
-/
import Derived.Test.YtokjeglhmmijfaaPsa
namespace Go.Proofs.Ytokjeglhmmijfaa
open Go.RowKit Go.WideShapes Go.ChangeShapes
set_option linter.all false
theorem isid_any (x : Int) (b : Bool) (hb : b = decide (0 ≤ x ∧ x ≤ 1073741824)) (w : World) : Calls Try.prog 30 #[.int .i64 x] w fun e w' => e = .returned (.bool b) ∧ w' = w := by
  by_cases h0 : 0 ≤ x
  · by_cases h1 : x ≤ 1073741824
    · obtain rfl : b = true := by rw [hb]; simp [h0, h1]
      clear hb
      go_enter Try.func30, Try.ntmps30
      go_wp2
      go_ret
      exact ⟨rfl, rfl⟩
    · obtain rfl : b = false := by rw [hb]; simp [h1]
      clear hb
      go_enter Try.func30, Try.ntmps30
      go_wp2
      go_ret
      exact ⟨rfl, rfl⟩
  · obtain rfl : b = false := by rw [hb]; simp [h0]
    clear hb
    go_enter Try.func30, Try.ntmps30
    go_wp2
    go_ret
    exact ⟨rfl, rfl⟩
/-- A box for the list, and one for the result. -/
structure B2 (A : Option Addr) (n c : Nat) (w wr : World) : Prop where
  bel : Below w.heap.size w wr
  b0 : wr.heap[w.heap.size]? = some (.cells #[.slice A n c] 24 (0, 0))
  b1 : wr.heap[w.heap.size + 1]? = some (.cells #[.slice none 0 0] 24 (0, 0))
section
variable {A : Option Addr} {n c : Nat} {w wr w' : World}
theorem B2.lt (h : B2 A n c w wr) : w.heap.size + 2 ≤ wr.heap.size := lt_of_heap h.b1
theorem B2.on (h : B2 A n c w wr) (hb : Below wr.heap.size wr w') : B2 A n c w w' := by
  have := h.lt
  exact ⟨h.bel.trans (hb.mono (by omega)), (hb.block _ (by omega)).trans h.b0, (hb.block _ (by omega)).trans h.b1⟩
theorem B2.onm (h : B2 A n c w wr) {k : Nat} (hk : w.heap.size + 2 ≤ k) (hb : Below k wr w') : B2 A n c w w' := by
  exact ⟨h.bel.trans (hb.mono (by omega)), (hb.block _ (by omega)).trans h.b0, (hb.block _ (by omega)).trans h.b1⟩
theorem B2.new (A : Option Addr) (n c : Nat) (w : World) : B2 A n c w ((w.alloc (.cells #[.slice A n c] 24)).alloc (.cells #[.slice none 0 0] 24)) := by
  refine ⟨((Below.refl _ _).alloc (Nat.le_refl _) _).alloc (by simp) _, ?_, ?_⟩
  · rw [heap_alloc_old _ _ (by simp)]; exact heap_alloc_new _ _
  · have := heap_alloc_new (w.alloc (.cells #[.slice A n c] 24)) (.cells #[.slice none 0 0] 24)
    simpa using this
theorem B2.p0 (h : B2 A n c w wr) : wr.cell? ⟨w.heap.size, 0, none⟩ = some (.slice A n c) := by rw [cell_of h.b0]; rfl
theorem B2.p1 (h : B2 A n c w wr) : wr.cell? ⟨w.heap.size + 1, 0, none⟩ = some (.slice none 0 0) := by rw [cell_of h.b1]; rfl
theorem B2.f1 (h : B2 A n c w wr) : wr.frozen? ⟨w.heap.size + 1, 0, none⟩ = false := frozen_of h.b1 0
theorem B2.set (h : B2 A n c w wr) (V : Value) : (wr.setCell ⟨w.heap.size + 1, 0, none⟩ V).cell? ⟨w.heap.size + 1, 0, none⟩ = some V ∧ Below w.heap.size w (wr.setCell ⟨w.heap.size + 1, 0, none⟩ V) := by
  refine ⟨?_, h.bel.setCell (Nat.le_succ _) _⟩
  have := cell_of (heap_set_one (u := V) h.b1) 0
  exact this
theorem ran_below {v v' : Value} {N m k : Nat} {t : TypeId} {xs : List Value} (hm : Mid wr N t 1 v m xs) (hr : Ran v v' wr w') (hk : k ≤ N) (hk2 : k ≤ wr.heap.size) : Below k wr w' :=
  (Below.refl _ _).grown hr.grown hk2 (fun g hg => by have := (hm.lt g hg).1; omega)
end
def AddP (F : Nat → Prop) (L : List (List Nat)) (ok : Bool) (w : World) (e : Ending) (w' : World) : Prop := ∃ A c, e = .returned (.tuple #[.agg #[.slice A L.length c], .bool ok]) ∧ Below w.heap.size w w' ∧ PLF w' F A L.length c L
theorem AddP.mk {F : Nat → Prop} {L : List (List Nat)} {ok : Bool} {w w' : World} {A : Option Addr} {n c : Nat} (hn : L.length = n) (hb : Below w.heap.size w w') (hp : PLF w' F A n c L) : AddP F L ok w (.returned (.tuple #[.agg #[.slice A n c], .bool ok])) w' := by
  subst hn; exact ⟨A, c, rfl, hb, hp⟩
/-- F's blocks, and the call's two boxes. -/
def F2 (F : Nat → Prop) (k : Nat) : Nat → Prop := fun b => F b ∨ b = k ∨ b = k + 1
theorem PLF.boxes {F : Nat → Prop} {A : Option Addr} {n c : Nat} {L : List (List Nat)} {w w' : World} (h : PLF w F A n c L) (hb : Below w.heap.size w w') : PLF w' (F2 F w.heap.size) A n c L :=
  (h.fresh (G := F2 F w.heap.size) (fun b hb => by rcases hb with q | q | q; exact .inl q; exact .inr (by omega); exact .inr (by omega))).on hb
/-- What is laid into the result's box is told. -/
theorem PLF.done {F : Nat → Prop} {A : Option Addr} {n c k : Nat} {L : List (List Nat)} {w : World} (h : PLF w (F2 F k) A n c L) (V : Value) : PLF (w.setCell ⟨k + 1, 0, none⟩ V) F A n c L :=
  (h.far (b := k + 1) (.inr (.inr rfl)) V 0).mono (fun _ hb => .inl hb)
theorem F2.lt {F : Nat → Prop} {w W : World} (hF : ∀ b, F b → b < w.heap.size) (h : w.heap.size + 2 ≤ W.heap.size) : ∀ b, F2 F w.heap.size b → b < W.heap.size := fun b hb => by
  rcases hb with q | q | q
  · have := hF b q; omega
  · omega
  · omega
set_option maxRecDepth 100000 in
set_option maxHeartbeats 1600000 in
theorem add_no (F : Nat → Prop) (A : Option Addr) (n c : Nat) (L : List (List Nat)) (x : Int) (w : World) (h : PLF w F A n c L) (hR : RL L) (hn : n ≤ 1000000) (hx : ¬ (0 ≤ x ∧ x ≤ 1073741824) ∨ hasB x L.flatten = true) :
    Calls Try.prog 12 #[plV A n c, .int .i64 x] w (AddP F L false w) := by
  have HLN := Lib.hid h.len
  obtain ⟨wb, hwb⟩ : ∃ wb, (w.alloc (.cells #[.slice A n c] 24)).alloc (.cells #[.slice none 0 0] 24) = wb := ⟨_, rfl⟩
  have HX : Hid (B2 A n c w wb) := Lib.hid (hwb ▸ B2.new A n c w)
  have HW := Lib.hid hwb
  have HL := Lib.hid h
  have p0 := HX.out.p0
  have p1 := HX.out.p1
  have f1 := HX.out.f1
  have HC : Hid (Calls Try.prog 21 #[plV A n c, .int .i64 x] wb fun e w' => e = .returned (.bool (hasB x L.flatten)) ∧ Below wb.heap.size wb w') := Lib.hid (has_any A n c L x wb (h.pl.on HX.out.bel) hR hn)
  clear h hwb
  unfold plV at HC ⊢
  by_cases hi : 0 ≤ x ∧ x ≤ 1073741824
  · have hh : hasB x L.flatten = true := by rcases hx with q | q; exact absurd hi q; exact q
    rw [hh] at HC
    have HI : Hid (true = decide (0 ≤ x ∧ x ≤ 1073741824)) := Lib.hid (by simp [hi])
    clear hx hi hh hR
    go_enter Try.func12, Try.ntmps12
    go_upto_region 1 with (fail)
    rw [HW.out]
    go_upto_region 2 with (first
      | (go_at_call 30; refine (isid_any x true HI.out _).mono ?_; rintro e w2 ⟨rfl, hw2⟩; rw [hw2]; clear hw2)
      | (go_at_call 21; refine HC.out.mono ?_; rintro e w2 ⟨rfl, hb2⟩; have HX2 := Lib.hid (HX.out.on hb2); clear hb2)
      | fail)
    clear p0 p1 f1
    have p0 := HX2.out.p0
    have p1 := HX2.out.p1
    have f1 := HX2.out.f1
    go_wp2
    have hs := HX2.out.set (.slice A n c)
    have hp := (HL.out.boxes HX2.out.bel).done (.slice A n c)
    generalize w2.setCell ⟨w.heap.size + 1, 0, none⟩ (.slice A n c) = w9 at *
    have e1 := hs.1
    refine bodyPost_ret (v := .tuple #[.agg #[.slice A n c], .bool false]) (by simp [results, Try.results12, go_sem, e1]) rfl (AddP.mk HLN.out hs.2 hp)
  · have HI : Hid (false = decide (0 ≤ x ∧ x ≤ 1073741824)) := Lib.hid (by rw [decide_eq_false hi])
    clear hx hi hR
    go_enter Try.func12, Try.ntmps12
    go_upto_region 1 with (fail)
    rw [HW.out]
    go_wp2_with (first
      | (go_at_call 30; refine (isid_any x false HI.out _).mono ?_; rintro e w2 ⟨rfl, hw2⟩; rw [hw2]; clear hw2)
      | fail)
    have hs := HX.out.set (.slice A n c)
    have hp := (HL.out.boxes HX.out.bel).done (.slice A n c)
    generalize wb.setCell ⟨w.heap.size + 1, 0, none⟩ (.slice A n c) = w9 at *
    have e1 := hs.1
    refine bodyPost_ret (v := .tuple #[.agg #[.slice A n c], .bool false]) (by simp [results, Try.results12, go_sem, e1]) rfl (AddP.mk HLN.out hs.2 hp)
end Go.Proofs.Ytokjeglhmmijfaa
