/-
  New epochs of the program and of the document: all unpinned, nothing waits; conditions: sizes.
-/
import Derived.Test.YtafedpphecfgnaaEy5
namespace Go.Proofs.Ytafedpphecfgnaa
open Go.RowKit Go.WideShapes Go.ChangeShapes
set_option linter.all false
theorem info56' : (Try.prog.info? 56).map (fun i => (i.zero, i.size, i.bytes)) = some (some (.agg #[.int .i64 0, .slice none 0 0]), 2, 32) := by kernel_rfl
theorem info3'' : (Try.prog.info? 3).map (fun i => (i.zero, i.size, i.bytes)) = some (some (.int .i64 0), 1, 8) := by kernel_rfl
theorem info50 : (Try.prog.info? 50).map (fun i => (i.zero, i.size, i.bytes)) = some (some (.slice none 0 0), 1, 24) := by kernel_rfl
section
variable {P : Program}
theorem step_make_full {ops : Array Oper} {o : Oper} {a : Act} {w : World} {K : Act → World → Prop} {Q : Exit → Act → World → Prop} {E : Prop} (hgd : o.guard = none)
    (l c : Operand) (t : TypeId) (hop : o.op = Op.makeSlice t l c)
    (base : Nat) (e : TypeId) (i : TypeInfo) (z : Value) (size : Nat) (h1 : P.underlying t = some (.slice e)) (h2 : P.info? e = some i) (h3 : i.zero = some z) (h4 : i.size = size)
    (kl kc : IntKind) (L C : Int) (n : Nat) (hl : a.eval l = .int kl L) (hc : a.eval c = .int kc C) (hL : L = (n : Int)) (hC : C = (n : Int)) (b2 : i.bytes * n ≤ 281474976710656) (b3 : n ≤ maxLen) (b4 : base ≤ w.heap.size)
    (hK : ∀ w', w'.ownsRow base e size (.slice (some ⟨w.heap.size, 0, none⟩) n n) n (madeCells z.cells (n * size)).toList → w.grownBy w' none → K (a.put o.dst (.slice (some ⟨w.heap.size, 0, none⟩) n n)) w') :
    if Region.wanted o (yielded ops a.tmps) = true then Oper.wp P o a w K Q else E := by
  have hw : Region.wanted o (yielded ops a.tmps) = true := by simp [Region.wanted, hgd]
  rw [if_pos hw]
  obtain ⟨w', hrun, r1, r2⟩ := run_make_full (P := P) w base t e i z size h1 h2 h3 h4 kl kc n b2 b3 b4
  subst hL
  subst hC
  unfold Oper.wp
  simp [execOp, hop, hl, hc, hrun, Result.andThen]
  exact hK w' r1 r2
end
/-- Places of pins and of lists: t pins are told -1, the lists are empty. -/
structure Tbl (pa la : Nat → Addr) (k t : Nat) (w : World) : Prop where
  done : ∀ j, j < t → w.cell? (pa j) = some (.int .i64 (-1))
  some_ : ∀ j, j < k → ∃ u, w.cell? (pa j) = some u
  lists : ∀ j, j < k → w.cell? (la j) = some (.slice none 0 0)
  fp : ∀ j, j < k → w.frozen? (pa j) = false
  fl : ∀ j, j < k → w.frozen? (la j) = false
theorem Tbl.store {pa la : Nat → Addr} {k t : Nat} {w : World} (h : Tbl pa la k t w) (ht : t < k) (hi : ∀ i, i ≠ t → pa t ≠ pa i) (hl : ∀ i, pa t ≠ la i) : Tbl pa la k (t + 1) (w.setCell (pa t) (.int .i64 (-1))) := by
  obtain ⟨u, hu⟩ := h.some_ t ht
  refine ⟨fun j hj => ?_, fun j hj => ?_, fun j hj => (World.cell?_setCell_other _ _ _ _ (hl j)).trans (h.lists j hj), fun j hj => by rw [World.frozen?_setCell]; exact h.fp j hj, fun j hj => by rw [World.frozen?_setCell]; exact h.fl j hj⟩
  · by_cases e : j = t
    · subst e; exact World.cell?_setCell_same _ _ _ hu
    · exact (World.cell?_setCell_other _ _ _ _ (hi j e)).trans (h.done j (by omega))
  · by_cases e : j = t
    · subst e; exact ⟨_, World.cell?_setCell_same _ _ _ hu⟩
    · obtain ⟨v, hv⟩ := h.some_ j hj
      exact ⟨v, (World.cell?_setCell_other _ _ _ _ (hi j e)).trans hv⟩
def pa0 (R : Nat) (j : Nat) : Addr := ⟨R, j * 2, none⟩
def la0 (R : Nat) (j : Nat) : Addr := ⟨R, j * 2 + 1, none⟩
def ia (A : Nat) (j : Nat) : Addr := ⟨A, j, none⟩
set_option maxRecDepth 100000 in
set_option maxHeartbeats 800000 in
theorem new0_any (k : Nat) (lim : Int) (w : World) (hk : 1 ≤ k) (hk9 : k ≤ 8) (hl : 4 ≤ lim) (hl9 : lim ≤ 64) : Calls Try.prog 7 #[.int .i64 k, .int .i64 lim] w fun e w' =>
    ∃ E R, e = .returned (.tuple #[.pointer (some ⟨E, 0, none⟩), .int .i64 0]) ∧ w'.cell? ⟨E, 0, none⟩ = some (.int .i64 0) ∧ w'.frozen? ⟨E, 0, none⟩ = false ∧ w'.cell? ⟨E, 1, none⟩ = some (.int .i64 lim) ∧ w'.cell? ⟨E, 2, none⟩ = some (.slice (some ⟨R, 0, none⟩) k k) ∧ w'.frozen? ⟨E, 1, none⟩ = false ∧ w'.frozen? ⟨E, 2, none⟩ = false ∧ Tbl (pa0 R) (la0 R) k k w' ∧ R ≠ E ∧ w.heap.size ≤ R ∧ w.heap.size ≤ E ∧ Below w.heap.size w w' := by
  obtain ⟨i0, hi0, hz0, hz1, hz2⟩ := info_parts info56'
  have h1 : ¬ (k : Int) < 1 := by omega
  have h2 : ¬ (k : Int) > 8 := by omega
  have h3 : ¬ lim < 4 := by omega
  have h4 : ¬ lim > 64 := by omega
  go_enter Try.func7, Try.ntmps7
  go_wp2_with (first
    | (refine wpList_make_full _ rfl (.tmp 23) (.tmp 23) 51 rfl w.heap.size 56 i0 _ 2 Try.underlying51 hi0 hz0 hz1 .i64 .i64 _ _ k rfl rfl rfl rfl (by rw [hz2]; omega) (by unfold maxLen; omega) (Nat.le_refl _) ?_
       intro w1 hown hg1)
    | fail)
  have hb : Below w.heap.size w w1 := (Below.refl _ _).grown hg1 (Nat.le_refl _) (by simp)
  have hlt : w.heap.size < w1.heap.size := (hown.lt _ rfl).2
  have hr0 : ∀ j, j < k * 2 → w1.cell? ⟨w.heap.size, j, none⟩ = some (if j % 2 = 0 then .int .i64 0 else .slice none 0 0) := fun j hj => by
    rw [World.ownsRow.cellAt hown j (by omega)]
    unfold madeCells
    rcases Nat.mod_two_eq_zero_or_one j with h | h <;> simp [h, hj, Value.cells]
  have hfr : ∀ j, w1.frozen? ⟨w.heap.size, j, none⟩ = false := fun j => World.ownsRow.frozenAt hown j
  generalize hR : w.heap.size = R at *
  generalize hE : w1.heap.size = E at *
  have HR := Lib.hid hR
  have HE := Lib.hid hE
  clear hown hg1 hR hE
  go_loopw [32] (fun i wr => ∃ j : Nat, j ≤ k ∧ i = .int .i64 j ∧ wr.cell? ⟨E, 0, none⟩ = some (.int .i64 0) ∧ wr.frozen? ⟨E, 0, none⟩ = false ∧ wr.cell? ⟨E, 1, none⟩ = some (.int .i64 lim) ∧ wr.cell? ⟨E, 2, none⟩ = some (.slice (some ⟨R, 0, none⟩) k k) ∧ Hid (wr.frozen? ⟨E, 1, none⟩ = false ∧ wr.frozen? ⟨E, 2, none⟩ = false) ∧ Hid (Tbl (pa0 R) (la0 R) k j wr) ∧ Below R w wr) (fun i _ => k - (intOf i).toNat)
  case atStart =>
    subst E
    have hbo : ∀ o : Obj, Below w1.heap.size w1 (w1.alloc o) := fun o => (Below.refl _ _).alloc (Nat.le_refl _) o
    refine ⟨0, by omega, rfl, World.cell?_alloc_at _ _ _ _ rfl, World.frozen?_alloc_at _ _ _ _ rfl, World.cell?_alloc_at _ _ _ _ rfl, World.cell?_alloc_at _ _ _ _ rfl, Lib.hid ⟨World.frozen?_alloc_at _ _ _ _ rfl, World.frozen?_alloc_at _ _ _ _ rfl⟩, Lib.hid ⟨fun j hj => absurd hj (by omega), fun j hj => ⟨.int .i64 0, ?_⟩, fun j hj => ?_, fun j hj => ?_, fun j hj => ?_⟩, hb.alloc (by omega) _⟩
    · show (w1.alloc _).cell? ⟨R, j * 2, none⟩ = _
      rw [(hbo _).cell (p := ⟨R, j * 2, none⟩) hlt, hr0 _ (by omega), if_pos (by omega)]
    · show (w1.alloc _).cell? ⟨R, j * 2 + 1, none⟩ = _
      rw [(hbo _).cell (p := ⟨R, j * 2 + 1, none⟩) hlt, hr0 _ (by omega), if_neg (by omega)]
    · show (w1.alloc _).frozen? ⟨R, j * 2, none⟩ = _
      rw [(hbo _).frozen (p := ⟨R, j * 2, none⟩) hlt]; exact hfr _
    · show (w1.alloc _).frozen? ⟨R, j * 2 + 1, none⟩ = _
      rw [(hbo _).frozen (p := ⟨R, j * 2 + 1, none⟩) hlt]; exact hfr _
  case round =>
    obtain ⟨j, hj, rfl, hc0, hf0, hc1, hc2, HF, HRow, hbl⟩ := hrel
    by_cases hjk : j < k
    · obtain ⟨u, hu⟩ : ∃ u, wr.cell? ⟨R, j * 2, none⟩ = some u := HRow.out.some_ j hjk
      have hf : wr.frozen? ⟨R, j * 2, none⟩ = false := HRow.out.fp j hjk
      have hj1 : (j : Int) < k := by omega
      have hj0 : (0 : Int) ≤ j := by omega
      go_wp2
      go_roundw
      case rel =>
        refine ⟨j + 1, by omega, by go_num, ?_, ?_, ?_, ?_, Lib.hid ⟨?_, ?_⟩, Lib.hid (HRow.out.store hjk (fun i hi => by simp [pa0] <;> omega) (fun i => by simp [pa0, la0] <;> omega)), hbl.setCell (Nat.le_refl _) _⟩
        · exact (World.cell?_setCell_far _ _ _ _ (by show R ≠ E; omega)).trans hc0
        · rw [World.frozen?_setCell]; exact hf0
        · exact (World.cell?_setCell_far _ _ _ _ (by show R ≠ E; omega)).trans hc1
        · exact (World.cell?_setCell_far _ _ _ _ (by show R ≠ E; omega)).trans hc2
        · rw [World.frozen?_setCell]; exact HF.out.1
        · rw [World.frozen?_setCell]; exact HF.out.2
      case measure => simp only [intOf]; omega
    · obtain rfl : j = k := by omega
      go_wp2
      go_ret2
      rw [HR.out]
      exact ⟨E, R, rfl, hc0, hf0, hc1, hc2, HF.out.1, HF.out.2, HRow.out, by omega, Nat.le_refl _, by omega, hbl⟩
/-- Two fresh rows, one of pins, one of lists. -/
def Fx (w : World) (k A B : Nat) (w2 : World) : Prop := Tbl (ia A) (ia B) k 0 w2 ∧ A ≠ B ∧ A < w2.heap.size ∧ B < w2.heap.size ∧ w.heap.size ≤ A ∧ w.heap.size ≤ B ∧ Below w.heap.size w w2
theorem made_at {z : Value} {k j : Nat} (hz : z.cells = #[z]) (hj : j < k) : (madeCells z.cells (k * 1)).toList[j]? = some z := by
  rw [hz, toList_madeCells_one]
  simp [hj]
theorem fx1 {w wa wb : World} {k : Nat} (ha : wa.ownsRow w.heap.size 3 1 (.slice (some ⟨w.drew.heap.size, 0, none⟩) k k) k (madeCells (Value.int .i64 0).cells (k * 1)).toList) (ga : w.drew.grownBy wa none)
    (hb : wb.ownsRow w.heap.size 50 1 (.slice (some ⟨wa.heap.size, 0, none⟩) k k) k (madeCells (Value.slice none 0 0).cells (k * 1)).toList) (gb : wa.grownBy wb none) : Fx w k w.heap.size wa.heap.size wb := by
  have la : w.heap.size < wa.heap.size := (ha.lt _ rfl).2
  have lb : wa.heap.size < wb.heap.size := (hb.lt _ rfl).2
  have B1 : Below w.heap.size w wa := (Below.refl _ _).grown (w := w) ⟨ga.os, ga.tape, ga.output, ga.size, ga.block⟩ (Nat.le_refl _) (by simp)
  have B2 : Below wa.heap.size wa wb := (Below.refl _ _).grown gb (Nat.le_refl _) (by simp)
  refine ⟨⟨fun j hj => absurd hj (by omega), fun j hj => ⟨.int .i64 0, ?_⟩, fun j hj => ?_, fun j hj => ?_, fun j hj => ?_⟩, by omega, by omega, lb, Nat.le_refl _, by omega, B1.trans (B2.mono (by omega))⟩
  · rw [B2.cell (p := ia w.heap.size j) la]
    simpa [ia, Addr.add_lit] using ha.cells (g := w.heap.size) rfl j _ (made_at rfl hj)
  · simpa [ia, Addr.add_lit] using hb.cells (g := wa.heap.size) rfl j _ (made_at rfl hj)
  · rw [B2.frozen (p := ia w.heap.size j) la]
    exact World.ownsRow.frozenAt ha j
  · exact World.ownsRow.frozenAt hb j
theorem fx2 {w wa wb : World} {k : Nat} (hb : wb.ownsRow w.heap.size 50 1 (.slice (some ⟨w.drew.heap.size, 0, none⟩) k k) k (madeCells (Value.slice none 0 0).cells (k * 1)).toList) (gb : w.drew.grownBy wb none)
    (ha : wa.ownsRow w.heap.size 3 1 (.slice (some ⟨wb.heap.size, 0, none⟩) k k) k (madeCells (Value.int .i64 0).cells (k * 1)).toList) (ga : wb.grownBy wa none) : Fx w k wb.heap.size w.heap.size wa := by
  have lb : w.heap.size < wb.heap.size := (hb.lt _ rfl).2
  have la : wb.heap.size < wa.heap.size := (ha.lt _ rfl).2
  have B1 : Below w.heap.size w wb := (Below.refl _ _).grown (w := w) ⟨gb.os, gb.tape, gb.output, gb.size, gb.block⟩ (Nat.le_refl _) (by simp)
  have B2 : Below wb.heap.size wb wa := (Below.refl _ _).grown ga (Nat.le_refl _) (by simp)
  refine ⟨⟨fun j hj => absurd hj (by omega), fun j hj => ⟨.int .i64 0, ?_⟩, fun j hj => ?_, fun j hj => ?_, fun j hj => ?_⟩, by omega, la, by omega, by omega, Nat.le_refl _, B1.trans (B2.mono (by omega))⟩
  · simpa [ia, Addr.add_lit] using ha.cells (g := wb.heap.size) rfl j _ (made_at rfl hj)
  · rw [B2.cell (p := ia w.heap.size j) lb]
    simpa [ia, Addr.add_lit] using hb.cells (g := w.heap.size) rfl j _ (made_at rfl hj)
  · exact World.ownsRow.frozenAt ha j
  · rw [B2.frozen (p := ia w.heap.size j) lb]
    exact World.ownsRow.frozenAt hb j
set_option maxRecDepth 100000 in
set_option maxHeartbeats 1600000 in
theorem new1_any (k : Nat) (lim : Int) (w : World) (hk : 1 ≤ k) (hk9 : k ≤ 8) (hl : 4 ≤ lim) (hl9 : lim ≤ 64) : Calls Try.prog 15 #[.int .i64 k, .int .i64 lim] w fun e w' =>
    ∃ Q A B, e = .returned (.tuple #[.pointer (some ⟨Q, 0, none⟩), .int .i64 0]) ∧ w'.cell? ⟨Q, 0, none⟩ = some (.int .i64 0) ∧ w'.frozen? ⟨Q, 0, none⟩ = false ∧ w'.cell? ⟨Q, 1, none⟩ = some (.int .i64 lim) ∧ w'.cell? ⟨Q, 2, none⟩ = some (.slice (some ⟨A, 0, none⟩) k k) ∧ w'.cell? ⟨Q, 3, none⟩ = some (.slice (some ⟨B, 0, none⟩) k k) ∧ Hid (w'.frozen? ⟨Q, 1, none⟩ = false ∧ w'.frozen? ⟨Q, 2, none⟩ = false ∧ w'.frozen? ⟨Q, 3, none⟩ = false) ∧ Tbl (ia A) (ia B) k k w' ∧ A ≠ B ∧ A ≠ Q ∧ B ≠ Q ∧ w.heap.size ≤ A ∧ w.heap.size ≤ B ∧ w.heap.size ≤ Q ∧ Below w.heap.size w w' := by
  obtain ⟨i0, hi0, hz0, hz1, hz2⟩ := info_parts info3''
  obtain ⟨i1, hi1, hy0, hy1, hy2⟩ := info_parts info50
  have h1 : ¬ (k : Int) < 1 := by omega
  have h2 : ¬ (k : Int) > 8 := by omega
  have h3 : ¬ lim < 4 := by omega
  have h4 : ¬ lim > 64 := by omega
  go_enter Try.func15, Try.ntmps15
  go_wp2
  go_region_with
    (first
      | (obtain ⟨wa, hra, howa, hga⟩ := run_make_full (P := Try.prog) w.drew w.heap.size 39 3 i0 _ 1 Try.underlying39 hi0 hz0 hz1 .i64 .i64 k (by rw [hz2]; omega) (by unfold maxLen; omega) (Nat.le_refl _)
         rw [hra]
         go_simp)
      | (obtain ⟨wb, hrb, howb, hgb⟩ := run_make_full (P := Try.prog) w.drew w.heap.size 47 50 i1 _ 1 Try.underlying47 hi1 hy0 hy1 .i64 .i64 k (by rw [hy2]; omega) (by unfold maxLen; omega) (Nat.le_refl _)
         rw [hrb]
         go_simp)
      | (obtain ⟨wb2, hrb, howb, hgb⟩ := run_make_full (P := Try.prog) wa w.heap.size 47 50 i1 _ 1 Try.underlying47 hi1 hy0 hy1 .i64 .i64 k (by rw [hy2]; omega) (by unfold maxLen; omega) hga.size
         rw [hrb]
         go_simp)
      | (obtain ⟨wa2, hra, howa, hga⟩ := run_make_full (P := Try.prog) wb w.heap.size 39 3 i0 _ 1 Try.underlying39 hi0 hz0 hz1 .i64 .i64 k (by rw [hz2]; omega) (by unfold maxLen; omega) hgb.size
         rw [hra]
         go_simp))
  all_goals
    first
      | (have HF := Lib.hid (fx1 howa hga howb hgb)
         clear howa howb hga hgb hra hrb
         generalize wb2 = w2 at HF ⊢
         generalize wa.heap.size = B at HF ⊢
         generalize w.heap.size = A at HF ⊢
         clear wa)
      | (have HF := Lib.hid (fx2 howb hgb howa hga)
         clear howa howb hga hgb hra hrb
         generalize wa2 = w2 at HF ⊢
         generalize wb.heap.size = A at HF ⊢
         generalize w.heap.size = B at HF ⊢
         clear wb)
    clear i0 hi0 hz0 hz1 hz2 i1 hi1 hy0 hy1 hy2
    go_wp2
    generalize hE : w2.heap.size = E at *
    have HE := Lib.hid hE
    clear hE
    go_loopw [34] (fun i wr => ∃ j : Nat, j ≤ k ∧ i = .int .i64 j ∧ wr.cell? ⟨E, 0, none⟩ = some (.int .i64 0) ∧ wr.frozen? ⟨E, 0, none⟩ = false ∧ wr.cell? ⟨E, 1, none⟩ = some (.int .i64 lim) ∧ wr.cell? ⟨E, 2, none⟩ = some (.slice (some ⟨A, 0, none⟩) k k) ∧ wr.cell? ⟨E, 3, none⟩ = some (.slice (some ⟨B, 0, none⟩) k k) ∧ Hid (wr.frozen? ⟨E, 1, none⟩ = false ∧ wr.frozen? ⟨E, 2, none⟩ = false ∧ wr.frozen? ⟨E, 3, none⟩ = false) ∧ Hid (Tbl (ia A) (ia B) k j wr) ∧ Hid (Below w.heap.size w wr)) (fun i _ => k - (intOf i).toNat)
    case atStart =>
      obtain ⟨hT, _, hA2, hB2, hA3, hB3, hB⟩ := HF.out
      have hE := HE.out
      subst E
      have hbo : ∀ o : Obj, Below w2.heap.size w2 (w2.alloc o) := fun o => (Below.refl _ _).alloc (Nat.le_refl _) o
      refine ⟨0, by omega, rfl, World.cell?_alloc_at _ _ _ _ rfl, World.frozen?_alloc_at _ _ _ _ rfl, World.cell?_alloc_at _ _ _ _ rfl, World.cell?_alloc_at _ _ _ _ rfl, World.cell?_alloc_at _ _ _ _ rfl, Lib.hid ⟨World.frozen?_alloc_at _ _ _ _ rfl, World.frozen?_alloc_at _ _ _ _ rfl, World.frozen?_alloc_at _ _ _ _ rfl⟩, Lib.hid ⟨fun j hj => absurd hj (by omega), fun j hj => ?_, fun j hj => ?_, fun j hj => ?_, fun j hj => ?_⟩, Lib.hid (hB.alloc hB.size _)⟩
      · obtain ⟨u, hu⟩ := hT.some_ j hj
        exact ⟨u, ((hbo _).cell (p := ia A j) hA2).trans hu⟩
      · exact ((hbo _).cell (p := ia B j) hB2).trans (hT.lists j hj)
      · exact ((hbo _).frozen (p := ia A j) hA2).trans (hT.fp j hj)
      · exact ((hbo _).frozen (p := ia B j) hB2).trans (hT.fl j hj)
    case round =>
      obtain ⟨j, hj, rfl, hc0, hf0, hc1, hc2, hc3, HFz, HRow, HBl⟩ := hrel
      have hAE : A ≠ E := by have := HF.out.2.2.1; have := HE.out; omega
      by_cases hjk : j < k
      · obtain ⟨u, hu⟩ : ∃ u, wr.cell? ⟨A, j, none⟩ = some u := HRow.out.some_ j hjk
        have hf : wr.frozen? ⟨A, j, none⟩ = false := HRow.out.fp j hjk
        have hj1 : (j : Int) < k := by omega
        have hj0 : (0 : Int) ≤ j := by omega
        go_wp2
        go_roundw
        case rel =>
          refine ⟨j + 1, by omega, by go_num, ?_, ?_, ?_, ?_, ?_, Lib.hid ⟨?_, ?_, ?_⟩, Lib.hid (HRow.out.store hjk (fun i hi => by simp [ia] <;> omega) (fun i => by simp [ia]; intro e; exact absurd e HF.out.2.1)), Lib.hid (HBl.out.setCell HF.out.2.2.2.2.1 _)⟩
          · exact (World.cell?_setCell_far _ _ _ _ hAE).trans hc0
          · rw [World.frozen?_setCell]; exact hf0
          · exact (World.cell?_setCell_far _ _ _ _ hAE).trans hc1
          · exact (World.cell?_setCell_far _ _ _ _ hAE).trans hc2
          · exact (World.cell?_setCell_far _ _ _ _ hAE).trans hc3
          · rw [World.frozen?_setCell]; exact HFz.out.1
          · rw [World.frozen?_setCell]; exact HFz.out.2.1
          · rw [World.frozen?_setCell]; exact HFz.out.2.2
        case measure => simp only [intOf]; omega
      · obtain rfl : j = k := by omega
        go_wp2
        go_ret2
        obtain ⟨_, q1, q2, q3, q4, q5, q6⟩ := HF.out
        have q7 := HE.out
        have q8 := q6.size
        exact ⟨E, A, B, rfl, hc0, hf0, hc1, hc2, hc3, HFz, HRow.out, q1, by omega, by omega, q4, q5, by omega, HBl.out⟩
end Go.Proofs.Ytafedpphecfgnaa
