/-
  posting.Of; conditions: lengths.
-/
import Derived.Test.YtokjeglhmmijfaaPsf
namespace Go.Proofs.Ytokjeglhmmijfaa
open Go Go.RowKit Go.WideShapes Go.ChangeShapes Go.Shelf
set_option linter.all false
attribute [local go_sem] Oper.semAt_some
/-- Chunk k's ids. -/
def ck (l : List Nat) (k : Nat) : List Nat := (l.drop (16 * k)).take 16
theorem chunk_upto : ∀ (K : Nat) (l : List Nat), K = (l.length + 15) / 16 → chunkL K l = (upto id K).map (ck l)
  | 0, l, h => rfl
  | K + 1, l, h => by
    have hl : l ≠ [] := by rintro rfl; simp at h
    have h0 : 0 < l.length := List.length_pos_iff.2 hl
    have ih := chunk_upto K (l.drop 16) (by rw [List.length_drop]; omega)
    rw [chunkL, if_neg hl, ih]
    unfold upto
    rw [List.range_succ_eq_map]
    simp only [List.map_cons, List.map_map, id]
    refine congr (congrArg List.cons ?_) ?_
    · unfold ck; simp
    · apply List.map_congr_left
      intro k _
      simp only [Function.comp, id, ck, List.drop_drop]
      congr 2; omega
theorem ck_mem {l : List Nat} {K k : Nat} (hK : K = (l.length + 15) / 16) (h : k < K) : ck l k ∈ chunkL K l := by
  rw [chunk_upto K l hK]
  exact List.mem_map.2 ⟨k, by unfold upto; simp [h], rfl⟩
theorem ck_len {l : List Nat} {k : Nat} : (ck l k).length = endK l.length k := by
  unfold ck endK; rw [List.length_take, List.length_drop]
theorem ck_sk {w : World} {B n c k : Nat} {A : Option Addr} {l : List Nat} (h : SK .i64 w B A n c (nb l)) (hk : 16 * k < n) : SK .i64 w B (A.map (·.add (16 * k))) (endK n k) (endK n k) (nb (ck l k)) := by
  have hn : l.length = n := by have := h.len; rwa [nb_len] at this
  have h1 := h.drop (k := 16 * k) (by omega)
  have hc := h.1
  rw [if_neg (by omega)] at h1
  have h2 := h1.take (k := endK n k) (by unfold endK; omega)
  have he' : ((nb l).drop (16 * k)).take (endK n k) = nb (ck l k) := by
    unfold ck nb endK
    rw [List.map_take, List.map_drop]
    by_cases h16 : n - 16 * k ≤ 16
    · rw [Nat.min_eq_right h16, List.take_of_length_le (by rw [List.length_drop, List.length_map]; omega), List.take_of_length_le (by rw [List.length_drop, List.length_map]; omega)]
    · rw [Nat.min_eq_left (by omega)]
  rw [he'] at h2
  exact SK.of h2.2.2.2 (Nat.le_refl _) (by have := h.2.1; unfold endK; unfold maxLen at *; omega)
/-- What has been laid when some chunks have come. -/
structure OI (F : Nat → Prop) (w : World) (V : Value) (own : List Ar) (M : List (List Nat)) (W : World) : Prop where
  bel : Below w.heap.size w W
  b0 : W.heap[w.heap.size]? = some (.cells #[.slice none 0 0] 24 (0, 0))
  b1 : W.heap[w.heap.size + 1]? = some (.cells #[V] 24 (0, 0))
  ol : OL .u8 5 66 W w.heap.size (w.heap.size + 4) V own
  ids : own.map Ar.l = M.map eb
  av : ∀ e ∈ own, Av F e.A e.n
section
variable {F : Nat → Prop} {w W W' : World} {V V' : Value} {own more : List Ar} {M M' : List (List Nat)}
theorem OI.on (h : OI F w V own M W) (hb : Below W.heap.size W W') : OI F w V own M W' :=
  ⟨h.bel.trans (hb.mono h.bel.size), (hb.block _ (lt_of_heap h.b0)).trans h.b0, (hb.block _ (lt_of_heap h.b1)).trans h.b1, h.ol.below hb, h.ids, h.av⟩
theorem OI.tu {row : Option Nat} (h : OI F w V own M W) (ht : Turns W W' row) (hr : ∀ r, row = some r → w.heap.size ≤ r) : OI F w V own M W' :=
  ⟨h.bel.grown ht.grown h.bel.size hr, ht.block h.b0 rfl, ht.block h.b1 rfl, h.ol.tu ht, h.ids, h.av⟩
theorem OI.c1 (h : OI F w V own M W) : W.cell? ⟨w.heap.size + 1, 0, none⟩ = some V := by rw [cell_of h.b1]; rfl
theorem OI.f1 (h : OI F w V own M W) : W.frozen? ⟨w.heap.size + 1, 0, none⟩ = false := frozen_of h.b1 0
/-- One more, not yet in its box. -/
theorem OI.ran (h : OI F w V own M W) {n : Nat} {xs : List Value} (hm : Mid W (w.heap.size + 4) 66 1 V n xs) (hr : Ran V V' W W') : W'.heap[w.heap.size]? = some (.cells #[.slice none 0 0] 24 (0, 0)) ∧ W'.heap[w.heap.size + 1]? = some (.cells #[V] 24 (0, 0)) ∧ Below w.heap.size w W' := by
  have ne : ∀ k, k < w.heap.size + 4 → some k ≠ V.ownBlock := fun k hk e => by have := (hm.lt k e.symm).1; omega
  exact ⟨(hr.grown.block _ (lt_of_heap h.b0) (ne _ (by omega))).trans h.b0, (hr.grown.block _ (lt_of_heap h.b1) (ne _ (by omega))).trans h.b1, h.bel.grown hr.grown h.bel.size (fun g hg => by have := (hm.lt g hg).1; omega)⟩
theorem OI.app (h : OI F w V own M W) (he : ∀ e ∈ more, EK .u8 5 W w.heap.size (w.heap.size + 4) e) (hv : ∀ e ∈ more, Av F e.A e.n) (hm : Mid W' (w.heap.size + 4) 66 1 V' (own.length + more.length) (own.map Ar.v ++ more.map Ar.v)) (hr : Ran V V' W W') (hi : more.map Ar.l = M'.map eb) :
    OI F w V' (own ++ more) (M ++ M') (W'.setCell ⟨w.heap.size + 1, 0, none⟩ V') := by
  obtain ⟨q0, q1, q2⟩ := h.ran h.ol.row hr
  exact ⟨q2.setCell (Nat.le_succ _) _, (heap_setCell_other _ _ _ _ (by simp)).trans q0, heap_set_one q1, (h.ol.app (by decide) he hm hr).far (by omega) (by omega) _, by rw [List.map_append, List.map_append, h.ids, hi], fun e he => by rcases List.mem_append.1 he with q | q; exact h.av e q; exact hv e q⟩
end
/-- The chunks that have come. -/
def cks (l : List Nat) {K : Nat} (pre : List (Ck K)) : List (List Nat) := pre.map fun x => ck l x.1
theorem cks_snoc (l : List Nat) {K : Nat} (pre : List (Ck K)) (x : Ck K) : cks l (pre ++ [x]) = cks l pre ++ [ck l x.1] := by unfold cks; rw [List.map_append]; rfl
def OIx (F : Nat → Prop) (w : World) (l : List Nat) {K : Nat} (pre : List (Ck K)) (W : World) : Prop := ∃ V own, OI F w V own (cks l pre) W
theorem OIx.own (F : Nat → Prop) (w : World) (l : List Nat) {K B : Nat} (hB : w.heap.size ≤ B) : OwnFrom B (OIx F w l (K := K)) := by
  rintro s W W' row ⟨V, own, h⟩ hg hr
  exact ⟨V, own, h.tu ⟨hg, fun r e => (hr r e).2⟩ (fun r e => by have := (hr r e).1; omega)⟩
def OfP (L : List (List Nat)) (code : Int) (F : Nat → Prop) (w : World) (e : Ending) (w' : World) : Prop := ∃ A c, e = .returned (.tuple #[.agg #[.slice A L.length c], .int .i64 code]) ∧ Below w.heap.size w w' ∧ PLF w' F A L.length c L
set_option maxRecDepth 100000 in
set_option maxHeartbeats 3200000 in
theorem of_yes (F : Nat → Prop) (w : World) (hF : ∀ b, F b → b < w.heap.size) (A : Option Addr) (n c : Nat) (l : List Nat) (h : SK .i64 w w.heap.size A n c (nb l)) (hn : n ≤ 1000) (ha : ascB 0 l = true) :
    Calls Try.prog 10 #[.slice A n c] w (OfP (chunkL ((n + 15) / 16) l) 0 F w) := by
  obtain ⟨i0, hi0, hz0, hz1, hz2'⟩ := info_parts info66
  have HS := Lib.hid h
  have HN : Hid (l.length = n) := Lib.hid (by have := h.len; rwa [nb_len] at this)
  have hc := h.1
  have HC9 := Lib.hid h.2.1
  have HA : Hid (0 < n → A ≠ none) := Lib.hid (fun hp e => by have := h.2.2.1 e; omega)
  have HAS := Lib.hid ha
  obtain ⟨wb, hwb⟩ : ∃ wb, w.alloc (.cells #[.slice none 0 0] 24) = wb := ⟨_, rfl⟩
  have HB : Hid (Below w.heap.size w wb ∧ wb.heap[w.heap.size]? = some (.cells #[.slice none 0 0] 24 (0, 0)) ∧ wb.heap.size = w.heap.size + 1) := Lib.hid (hwb ▸ ⟨below_alloc _ _, heap_alloc_new _ _, by simp⟩)
  have HW := Lib.hid hwb
  clear h ha hwb
  refine (callsIn_wide (n := 9)).1 ?_
  refine callsIn_of_wp_marks Try.func10 rfl trivial ?_ rfl
  simp only [Try.ntmps10, List.size_toArray, List.length_cons, List.length_nil, Nat.reduceAdd, Nat.reduceSub, Array.replicate_succ, Array.replicate_zero, List.push_toArray, List.append_toArray, List.nil_append, List.cons_append]
  refine wpIn_wide.2 ?_
  go_upto_region 1 with (fail)
  rw [HW.out]
  go_wp2
  go_loopw [4, 5, 10] (fun _ _ i wr => ∃ k : Nat, k ≤ n ∧ i = .int .i64 k ∧ wr = wb) (fun _ _ i _ => n - (intOf i).toNat)
  case atStart => exact ⟨0, Nat.zero_le _, rfl, rfl⟩
  case round =>
    obtain ⟨k, hk, rfl, rfl⟩ := hrel
    by_cases hlt : k < n
    · have hlk : k < l.length := by rw [HN.out]; exact hlt
      obtain ⟨a1, a2, a3⟩ := asc_at l 0 k HAS.out hlk
      obtain ⟨ad, rfl, g0⟩ := (HS.out.below HB.out.1).2.2.2.kat hlt
      rw [nb_get hlk] at g0
      have k0 : (0 : Int) ≤ k := by omega
      have k1 : (k : Int) < n := by omega
      have HI : Hid (true = decide (0 ≤ ((l.getD k 0 : Nat) : Int) ∧ ((l.getD k 0 : Nat) : Int) ≤ 1073741824)) := Lib.hid (by rw [decide_eq_true]; omega)
      cases k with
      | zero =>
        obtain ⟨y, hy⟩ : ∃ y, y = l.getD 0 0 := ⟨_, rfl⟩
        rw [← hy] at HI g0
        have g1 : wr.cell? ad = some (.int .i64 (y : Int)) := by simpa [Addr.add] using g0
        clear a1 a2 a3 hy g0 hlk
        go_wp2_with (first
          | (go_at_call 30; refine (isid_any _ true HI.out _).mono ?_; rintro e w2 ⟨rfl, hw2⟩; rw [hw2]; clear hw2)
          | fail)
        go_roundw
        case rel => exact ⟨1, by omega, by first | rfl | go_num, by trivial⟩
        case measure => simp only [intOf]; omega
      | succ m =>
        obtain ⟨ad', e', g2⟩ := (HS.out.below HB.out.1).2.2.2.kat (show m < n by omega)
        injection e' with e'
        subst e'
        rw [nb_get (by omega)] at g2
        have hlt2 := a3 (by omega)
        rw [Nat.add_sub_cancel] at hlt2
        obtain ⟨y, hy⟩ : ∃ y, y = l.getD (m + 1) 0 := ⟨_, rfl⟩
        obtain ⟨z, hz⟩ : ∃ z, z = l.getD m 0 := ⟨_, rfl⟩
        rw [← hy] at HI g0 hlt2
        rw [← hz] at g2 hlt2
        have g1 : wr.cell? ⟨ad.block, ad.off + (m + 1), none⟩ = some (.int .i64 (y : Int)) := by rw [← g0]; unfold Addr.add; rw [if_neg (by omega)]
        have hzy : ¬ ((z : Int) ≥ (y : Int)) := by omega
        have hm0 : (0 : Int) ≤ m := by omega
        have hmm : (m : Int) < n := by omega
        have hm1 : (m : Int) + 1 < n := by omega
        clear a1 a2 a3 hy hz hlt2 hlk
        go_wp2_with (first
          | (go_at_call 30; refine (isid_any _ true HI.out _).mono ?_; rintro e w2 ⟨rfl, hw2⟩; rw [hw2]; clear hw2)
          | fail)
        go_roundw
        case rel => exact ⟨m + 1 + 1, by omega, by first | rfl | go_num, by trivial⟩
        case measure => simp only [intOf]; omega
    · obtain rfl : n = k := by omega
      clear hlt
      go_upto_block 2 with (first
        | (go_at_call 31; refine (chunk_any A n c _).mono ?_; rintro e w2 ⟨rfl, hw2⟩; have HW2 := Lib.hid hw2; clear hw2)
        | fail)
      have HZ := Lib.hid HB.out.2.2
      have HO : Hid (OI F w (.slice none 0 0) [] [] w2 ∧ w2.cell? ⟨w.heap.size + 2, 0, none⟩ = some (.slice A n c) ∧ w2.cell? ⟨w.heap.size + 3, 0, none⟩ = some (.int .i64 16) ∧ w2.heap.size = w.heap.size + 4) := Lib.hid (by
        have hz := HZ.out
        obtain ⟨b1, b2, b3⟩ := HB.out
        have hw2 := HW2.out
        have d1 := below_alloc wr (.cells #[.slice none 0 0] 24)
        have d2 := below_alloc (wr.alloc (.cells #[.slice none 0 0] 24)) (.cells #[.slice A n c] 28)
        have d3 := below_alloc ((wr.alloc (.cells #[.slice none 0 0] 24)).alloc (.cells #[.slice A n c] 28)) (.cells #[.int .i64 16] 3)
        have hs1 : (wr.alloc (.cells #[.slice none 0 0] 24)).heap.size = w.heap.size + 2 := by simp [hz]
        have hs2 : ((wr.alloc (.cells #[.slice none 0 0] 24)).alloc (.cells #[.slice A n c] 28)).heap.size = w.heap.size + 3 := by simp [hz]
        have g1 : (wr.alloc (.cells #[.slice none 0 0] 24)).heap[w.heap.size + 1]? = some (.cells #[.slice none 0 0] 24 (0, 0)) := by have := heap_alloc_new wr (.cells #[.slice none 0 0] 24); rwa [hz] at this
        have g2 : ((wr.alloc (.cells #[.slice none 0 0] 24)).alloc (.cells #[.slice A n c] 28)).heap[w.heap.size + 2]? = some (.cells #[.slice A n c] 28 (0, 0)) := by have := heap_alloc_new (wr.alloc (.cells #[.slice none 0 0] 24)) (.cells #[.slice A n c] 28); rwa [hs1] at this
        have g3 : w2.heap[w.heap.size + 3]? = some (.cells #[.int .i64 16] 3 (0, 0)) := by rw [hw2]; have := heap_alloc_new ((wr.alloc (.cells #[.slice none 0 0] 24)).alloc (.cells #[.slice A n c] 28)) (.cells #[.int .i64 16] 3); rwa [hs2] at this
        have hw3 : w2.heap.size = w.heap.size + 4 := by rw [hw2]; simp [hz]
        have k2 : w2.heap[w.heap.size + 2]? = some (.cells #[.slice A n c] 28 (0, 0)) := by rw [hw2, heap_alloc_old _ _ (by omega)]; exact g2
        refine ⟨⟨?_, ?_, ?_, OL.nil _ (by omega) (by omega), rfl, by simp⟩, by rw [cell_of k2]; rfl, by rw [cell_of g3]; rfl, hw3⟩
        · rw [hw2]; exact ((b1.trans (d1.mono (by omega))).trans (d2.mono (by omega))).trans (d3.mono (by omega))
        · rw [hw2, heap_alloc_old _ _ (by omega), heap_alloc_old _ _ (by omega), heap_alloc_old _ _ (by omega)]; exact b2
        · rw [hw2, heap_alloc_old _ _ (by omega), heap_alloc_old _ _ (by omega)]; exact g1)
      rw [HZ.out]
      clear HW2 HW
      go_wp2
      have hz2 := HO.out.2.2.2
      have HZ2 := Lib.hid hz2
      refine (wpIn_wide (n := 9)).1 ?_
      refine wpIn_rangeFunc_ownG (α := Ck ((n + 15) / 16)) (F := Fence.wide) rfl (by omega) (gf := 42) (lb := #[.pointer (some ⟨w.heap.size + 1 + 1, 0, none⟩), .pointer (some ⟨w.heap.size + 1 + 1 + 1, 0, none⟩)]) rfl trivial (enters_of Try.func42 (by kernel_rfl) rfl)
        (chunk_stops 8 (by omega) (w.heap.size + 1 + 1) (w.heap.size + 1 + 1 + 1) n c A hn hc HC9.out HA.out w2 HO.out.2.1 HO.out.2.2.1 (by omega) (by omega)) Kp2.trans (Kp2.put (by omega) (by omega)) (Below.refl _ _) (fun _ => rfl)
        (OIx F w l) (fun _ _ _ => False)
        (OIx.own F w l (by omega))
        (fun _ _ _ _ _ hs _ _ => hs)
        ⟨_, _, HO.out.1⟩ (fun x => { tmps := #[.slice A n c, undef, .pointer (some ⟨w.heap.size, 0, none⟩), u3, u4, u5, .pointer (some ⟨w.heap.size + 1, 0, none⟩), chv A n x.1, .slice A n c, .int .i64 n, .int .i64 n, .bool false, u12, u13, u14, u15, u16, u17, u18, u19, u20, u21, u22, u23, u24, u25, u26, u27, u28, u29, u30, u31, u32, .slice A n c, .func (.func 42) #[] #[.pointer (some ⟨w.heap.size + 1 + 1, 0, none⟩), .pointer (some ⟨w.heap.size + 1 + 1 + 1, 0, none⟩)], chv A n x.1, undef, undef, undef, undef, undef, undef, undef, undef], defers := [] }) ?assign ?body ?done ?stop
      case assign =>
        intro L x W K hK
        gi_wp2
        exact hK
      case stop =>
        rintro D c' pre W _ _ h _
        exact h.elim
      case body =>
        rintro L pre x W ⟨V, own, hoi⟩ hlt
        obtain ⟨A1, c1, e1⟩ := hoi.ol.row.form
        subst e1
        generalize hQ : own.length = q at *
        have HQ := Lib.hid hQ
        have HOI := Lib.hid hoi
        have hq9 : q ≤ 1000 := by
          have := congrArg List.length hoi.ids
          rw [List.length_map, List.length_map, hQ] at this
          unfold cks at this
          rw [List.length_map] at this
          omega
        have hx16 : 16 * x.1 < n := by have := x.2; omega
        have HCK : Hid (SK .i64 W W.heap.size (A.map (·.add (16 * x.1))) (endK n x.1) (endK n x.1) (nb (ck l x.1))) := Lib.hid (((ck_sk HS.out hx16).below hoi.bel).more hoi.bel.size)
        have HRB : Hid (rightN (ck l x.1) = true) := Lib.hid ((chunk_right (k := (n + 15) / 16) (by rw [HN.out]; omega) HAS.out).right (ck_mem (by rw [HN.out]) x.2))
        have c0 := hoi.c1
        have g0 := hoi.f1
        clear hoi hQ
        gi_wp2
        refine wpIn_region_T (fun w' : World => w'.cell? ⟨w.heap.size + 1, 0, none⟩ = some (.slice A1 q c1)) 7 (by kernel_rfl) (by kernel_rfl) (by rintro ⟨a', w', h'⟩; exact h') ?_
        have hS : (fun w' : World => w'.cell? ⟨w.heap.size + 1, 0, none⟩ = some (.slice A1 q c1)) W.drew := c0
        refine wpAnyT_take (i := 0) (oi := _) (v := ?_) (by rfl) (by kernel_rfl) (by intro _ _ _ h; exact h) hS (Or.inl ⟨by rfl, ?_⟩) ?_
        rotate_left 1
        · intro w' hl1
          go_simp
          all_goals with_reducible rfl
        simp only [Act.put, List.getElem_toArray, List.getElem_cons_zero, List.getElem_cons_succ, List.setIfInBounds_toArray, List.set_cons_zero, List.set_cons_succ]
        refine wpAnyT_take (i := 1) (oi := _) (v := ?_) (by rfl) (by kernel_rfl) (by intro _ _ _ h; exact h) hS (Or.inl ⟨by rfl, ?_⟩) ?_
        rotate_left 1
        · intro w' hl1
          go_simp
          all_goals with_reducible rfl
        simp only [Act.put, List.getElem_toArray, List.getElem_cons_zero, List.getElem_cons_succ, List.setIfInBounds_toArray, List.set_cons_zero, List.set_cons_succ]
        refine wpAnyT_take (i := 2) (oi := _) (v := ?_) (by rfl) (by kernel_rfl) (by intro _ _ _ h; exact h) hS (Or.inl ⟨by rfl, ?_⟩) ?_
        rotate_left 1
        · intro w' hl1
          go_simp
          all_goals with_reducible rfl
        simp only [Act.put, List.getElem_toArray, List.getElem_cons_zero, List.getElem_cons_succ, List.setIfInBounds_toArray, List.set_cons_zero, List.set_cons_succ]
        refine wpAnyT_all (rs := [3]) (by kernel_rfl) (by simp) ?_
        intro ix hix
        simp only [List.mem_cons, List.not_mem_nil, or_false] at hix
        subst hix
        refine wpT_op (o := _) (by rfl) (fun K hK => ?_)
        go_simp
        go_at_call 32
        refine (enc_any _ _ _ (ck l x.1) _ (HCK.out.on (below_drew _)) HRB.out).mono ?_
        rintro e w4 ⟨A4, m4, c4, rfl, hb4, hm4⟩
        have HX4 := Lib.hid ((HOI.out.on (below_drew _)).on hb4)
        have HB4 := Lib.hid ((below_drew W).trans hb4)
        have HM4 := Lib.hid hm4
        have hS4 := HX4.out.c1
        clear hb4 hm4
        refine hK _ _ (fun _ => hS4) ?_
        clear hK K
        try simp only [Act.put, List.getElem_toArray, List.getElem_cons_zero, List.getElem_cons_succ, List.setIfInBounds_toArray, List.set_cons_zero, List.set_cons_succ]
        refine wpAnyT_all (rs := [4]) (by kernel_rfl) (by simp) ?_
        intro ix hix
        simp only [List.mem_cons, List.not_mem_nil, or_false] at hix
        subst hix
        refine wpT_op (o := _) (by rfl) (fun K hK => ?_)
        go_simp
        have HX5 := Lib.hid (HX4.out.on (below_alloc w4 (.cells #[.slice A4 m4 c4] 66)))
        have HB5 := Lib.hid (HB4.out.trans ((below_alloc w4 (.cells #[.slice A4 m4 c4] 66)).mono HB4.out.size))
        have hS5 := HX5.out.c1
        refine hK _ _ (fun _ => hS5) ?_
        clear hK K
        try simp only [Act.put, List.getElem_toArray, List.getElem_cons_zero, List.getElem_cons_succ, List.setIfInBounds_toArray, List.set_cons_zero, List.set_cons_succ]
        refine wpAnyT_all (rs := [5]) (by kernel_rfl) (by simp) ?_
        intro ix hix
        simp only [List.mem_cons, List.not_mem_nil, or_false] at hix
        subst hix
        refine wpT_op (o := _) (by rfl) (fun K hK => ?_)
        refine step_append_mid (by rfl) _ _ _ (by rfl) (w.heap.size + 4) 66 i0 _ 1 24 Try.underlying22 hi0 hz0 hz1 hz2' rfl (by omega) (.slice A1 q c1) q (own.map Ar.v) (by rfl) (by have := HX5.out.ol.row; rw [HQ.out] at this; exact this) ⟨w4.heap.size, 0, none⟩ 1 1 [.slice A4 m4 c4] (by rfl) (by rfl) (World.news_of_block (cs := #[.slice A4 m4 c4]) (t := 66) (fr := (0, 0)) (heap_alloc_new w4 _)) (by simp [Value.oneCell']) (by unfold maxLen; omega) (by omega) HX5.out.ol.leM ?_
        intro v6 w6 hm6 hr6
        obtain ⟨A6, c6, e6⟩ := hm6.form
        subst e6
        have hx6 := HX5.out.app (more := [⟨A4, m4, c4, eb (ck l x.1)⟩]) (M' := [ck l x.1]) (fun e he => by rw [List.mem_singleton] at he; subst he; exact .inr ((HM4.out.lower HOI.out.ol.leM).alloc_ _)) (fun e he => by rw [List.mem_singleton] at he; subst he; exact (HM4.out.lower HOI.out.ol.leM).av (fun b hb => by have := hF b hb; omega)) (by rw [HQ.out]; exact hm6) hr6 rfl
        obtain ⟨k0, k1, k2⟩ := HX5.out.ran HX5.out.ol.row hr6
        have g6 : w6.cell? ⟨w.heap.size + 1, 0, none⟩ = some (.slice A1 q c1) := by rw [cell_of k1]; rfl
        have r6 := frozen_of k1 0
        have HK6 : Hid (KeepsOthers W w6) := Lib.hid ((KeepsOthers.below HB5.out).trans (KeepsOthers.ran HX5.out.ol.row hr6))
        have HP6 : Hid (Kp2 (w.heap.size + 1 + 1) (w.heap.size + 1 + 1 + 1) W w6) := Lib.hid ((Kp2.below (B := w.heap.size + 4) (HB5.out.mono HOI.out.ol.leM) (by omega) (by omega)).trans (Kp2.below (B := w.heap.size + 4) (ran_below HX5.out.ol.row hr6 (Nat.le_refl _) HX5.out.ol.leM) (by omega) (by omega)))
        have HX6 := Lib.hid hx6
        clear hx6 hr6 hm6 k0 k1 k2
        refine hK _ _ (fun _ => g6) ?_
        clear hK K
        try simp only [Act.put, List.getElem_toArray, List.getElem_cons_zero, List.getElem_cons_succ, List.setIfInBounds_toArray, List.set_cons_zero, List.set_cons_succ]
        refine wpAnyT_all (rs := [6]) (by kernel_rfl) (by simp) ?_
        intro ix hix
        simp only [List.mem_cons, List.not_mem_nil, or_false] at hix
        subst hix
        refine wpT_op (o := _) (by rfl) (fun K hK => ?_)
        go_simp
        refine hK _ _ (fun _ => g6) ?_
        clear hK K
        try simp only [Act.put, List.getElem_toArray, List.getElem_cons_zero, List.getElem_cons_succ, List.setIfInBounds_toArray, List.set_cons_zero, List.set_cons_succ]
        refine wpAnyT_all (rs := [7]) (by kernel_rfl) (by simp) ?_
        intro ix hix
        simp only [List.mem_cons, List.not_mem_nil, or_false] at hix
        subst hix
        refine wpT_op (o := _) (by rfl) (fun K hK => ?_)
        go_simp
        refine hK _ _ (fun h => absurd h (by omega)) ?_
        clear hK K
        try simp only [Act.put, List.getElem_toArray, List.getElem_cons_zero, List.getElem_cons_succ, List.setIfInBounds_toArray, List.set_cons_zero, List.set_cons_succ]
        refine wpAnyT_done (by kernel_rfl) ?_ _
        refine ⟨((HK6.out.trans (KeepsOthers.setCell _ _ _))).from _, HP6.out.trans ?_, ⟨_, _, by rw [cks_snoc]; exact HX6.out⟩⟩
        exact ⟨World.cell?_setCell_other _ _ _ _ (by intro e; injection e with e; omega), World.cell?_setCell_other _ _ _ _ (by intro e; injection e with e; omega)⟩
      case done =>
        rintro D ys W hD hys ⟨V, own, hoi⟩ hK
        obtain ⟨A1, c1, e1⟩ := hoi.ol.row.form
        subst e1
        have HOI := Lib.hid hoi
        have c0 := hoi.c1
        have r0 : W.cell? ⟨w.heap.size, 0, none⟩ = some (.slice none 0 0) := by rw [cell_of hoi.b0]; rfl
        have fr0 := frozen_of hoi.b0 0
        have HYS := Lib.hid hys
        have HK := Lib.hid hK
        have HD := Lib.hid hD
        generalize hQ : own.length = q at *
        have HQ := Lib.hid hQ
        clear hoi hys hK hD hQ
        go_wp2
        refine ⟨by simp, .inl ⟨_, _, rfl, run_takeDeferred ((KeepsOthers.setCell _ _ _).same D _ HK.out rfl), ?_⟩⟩
        have HE : Hid (cks l ys = chunkL ((n + 15) / 16) l) := Lib.hid (by
          rw [chunk_upto _ _ (by rw [HN.out]), ← HYS.out]
          unfold cks
          rw [List.map_map]; rfl)
        have hKK : (W.setCell ⟨w.heap.size, 0, none⟩ (.slice A1 q c1)).heap[D]? = some (.deferred (some [])) := (KeepsOthers.setCell _ _ _).same D _ HK.out rfl
        have hT : Turns (W.setCell ⟨w.heap.size, 0, none⟩ (.slice A1 q c1)) ((W.setCell ⟨w.heap.size, 0, none⟩ (.slice A1 q c1)).putObj D (.deferred none)) (some D) := ⟨grownBy_putObj' _ _ _, fun r e => by cases e; exact ⟨_, hKK, rfl⟩⟩
        have hol := (HOI.out.ol.far (b := w.heap.size) (Nat.le_refl _) (by omega) (.slice A1 q c1)).tu hT
        have hb9 := hT.block (heap_set_one (u := .slice A1 q c1) HOI.out.b0) rfl
        have hbel := (HOI.out.bel.setCell (p := ⟨w.heap.size, 0, none⟩) (Nat.le_refl _) (.slice A1 q c1)).grown hT.grown (by have := HOI.out.bel.size; simp; exact this) (fun g e => by cases e; have := HD.out; omega)
        have hq : (chunkL ((n + 15) / 16) l).length = q := by
          have := congrArg List.length HOI.out.ids
          rw [List.length_map, List.length_map, HQ.out, HE.out] at this
          exact this.symm
        generalize (W.setCell ⟨w.heap.size, 0, none⟩ (.slice A1 q c1)).putObj D (.deferred none) = w9 at *
        have r9 : w9.cell? ⟨w.heap.size, 0, none⟩ = some (.slice A1 q c1) := by rw [cell_of hb9]; rfl
        refine ⟨.tuple #[.agg #[.slice A1 q c1], .int .i64 0], by simp [results, Try.results10, go_sem, r9], A1, c1, by rw [hq], hbel, ?_⟩
        rw [hq]
        refine ⟨own, hol.lk HQ.out, by rw [HOI.out.ids, HE.out], ?_, HOI.out.av⟩
        have hr := hol.row
        rw [HQ.out] at hr
        exact hr.av (fun b hb => by have := hF b hb; omega)
end Go.Proofs.Ytokjeglhmmijfaa
