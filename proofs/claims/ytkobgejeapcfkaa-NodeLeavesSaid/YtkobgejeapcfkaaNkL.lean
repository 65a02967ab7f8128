/-
  DecodeLeaf: the leaf whose words these are, if there is one; condition: sizes.
-/
import Derived.Test.YtkobgejeapcfkaaNkK
namespace Go.Proofs.Ytkobgejeapcfkaa
open Go.RowKit Go.WideShapes Go.ChangeShapes
set_option linter.all false
/-- What DecodeLeaf answers of xs. -/
structure DL (xs : List Int) (k : ByteArray) (v : Int) (ok : Bool) : Prop where
  yes : ok = true → leafOk k v = true ∧ leafW k v = xs
  no : ok = false → k = ⟨#[]⟩ ∧ v = 0 ∧ ∀ k' v', leafOk k' v' = true → leafW k' v' ≠ xs
theorem below_al (w : World) (o : Obj) : Below w.heap.size w (w.alloc o) := (Below.refl _ _).alloc (Nat.le_refl _) o
theorem dec_pos {k' : ByteArray} {v' : Int} {xs : List Int} {x1 : Nat} (hok : leafOk k' v' = true) (h : leafW k' v' = xs) (hx1 : xs.getD 1 0 = (x1 : Int)) :
    preOk xs (x1 / 256 % 256) = true ∧ preS xs (x1 / 256 % 256) = k' ∧ xs.getD 4 0 = v' := by
  obtain ⟨s1, s2, v1, v2⟩ := leafOk_size hok
  have p := leafW_parts (by omega) h
  have e1 : x1 = 256 * k'.size := by have := p.p1; rw [hx1] at this; omega
  have hm : x1 / 256 % 256 = k'.size := by omega
  rw [hm]
  have hz : zfB ((xs.drop 2).take 2) k'.size = true := by
    rw [p.ys, zf_rest _ _ (wd_64 k' 2 (by omega)) (by rw [wd_len]; omega)]
    exact wd_rest k' (by omega)
  have ho : preOk xs k'.size = true := by unfold preOk; rw [decide_eq_true (by omega), hz]; rfl
  refine ⟨ho, ?_, p.p4⟩
  unfold preS
  rw [if_pos ho, p.ys, wd_str k' 2 (by omega) k'.size (Nat.le_refl _)]
  apply ByteArray.ext
  simp [ByteArray.data_extract]
theorem DL.uniq {xs : List Int} {k l : ByteArray} {v u : Int} {a b : Bool} (h : DL xs k v a) (h' : DL xs l u b) : k = l ∧ v = u ∧ a = b := by
  cases a with
  | true =>
    obtain ⟨h1, h2⟩ := h.yes rfl
    cases b with
    | true =>
      obtain ⟨h3, h4⟩ := h'.yes rfl
      obtain ⟨rfl, rfl⟩ := leafW_inj (by have := (leafOk_size h1).2.1; unfold cnt; omega) (h2.trans h4.symm)
      exact ⟨rfl, rfl, rfl⟩
    | false => exact absurd h2 ((h'.no rfl).2.2 k v h1)
  | false =>
    obtain ⟨h1, h2, h3⟩ := h.no rfl
    cases b with
    | true =>
      obtain ⟨h4, h5⟩ := h'.yes rfl
      exact absurd h5 (h3 l u h4)
    | false =>
      obtain ⟨h4, h5, _⟩ := h'.no rfl
      exact ⟨h1.trans h4.symm, h2.trans h5.symm, rfl⟩
theorem rd4 {w : World} {B g : Nat} {xs : List Int} {x4 : Nat} (h : Reads w B 1 (some ⟨g, 0, none⟩) 8 (u64s xs)) (hx : xs.getD 4 0 = (x4 : Int)) : w.cell? ⟨g, 4, none⟩ = some (.int .u64 (x4 : Int)) := by
  obtain ⟨ad, e, hc⟩ := h.u64at (k := 4) (by omega)
  injection e with e
  subst e
  rw [hx] at hc
  have : (⟨g, 0, none⟩ : Addr).add 4 = ⟨g, 4, none⟩ := by unfold Addr.add; rw [if_neg (by omega)]
  rw [this] at hc; exact hc
def DecPost (xs : List Int) (w : World) (e : Ending) (w' : World) : Prop := ∃ k v ok, e = .returned (.tuple #[.agg #[.string k, .int .i64 v], .bool ok]) ∧ DL xs k v ok ∧ Below w.heap.size w w'
set_option maxRecDepth 100000 in
set_option maxHeartbeats 1600000 in
theorem decLeaf_any (g : Nat) (xs : List Int) (w : World) (h : Reads w w.heap.size 1 (some ⟨g, 0, none⟩) 8 (u64s xs)) (h64 : W64 xs) : Calls Try.prog 10 #[.slice (some ⟨g, 0, none⟩) 8 8] w (DecPost xs w) := by
  have hl := h.u64
  obtain ⟨x1, hx1, hlt1⟩ := h64.nat 1
  rw [← List.getD_eq_getElem?_getD] at hx1
  have HNO : Hid (preOk xs (x1 / 256 % 256) = false → DL xs ⟨#[]⟩ 0 false) := Lib.hid (fun hp => ⟨(fun e => by cases e), fun _ => ⟨rfl, rfl, fun k' v' h1 h2 => by
    rw [(dec_pos h1 h2 hx1).1] at hp; cases hp⟩⟩)
  have hpre := prefix_any g xs x1
  have HR := Lib.hid h
  have H64 := Lib.hid h64
  have HX1 := Lib.hid hx1
  have HLT := Lib.hid hlt1
  clear h h64 hx1 hlt1
  have hz0 : (w.alloc (.cells #[.string ⟨#[]⟩, .int .i64 0] 23)).cell? ⟨w.heap.size, 0, none⟩ = some (.string ⟨#[]⟩) := cell_of_row _ _ 0 #[.string ⟨#[]⟩, .int .i64 0] 23 (0, 0) (heap_alloc_new w _)
  have hz1 : (w.alloc (.cells #[.string ⟨#[]⟩, .int .i64 0] 23)).cell? ⟨w.heap.size, 1, none⟩ = some (.int .i64 0) := cell_of_row _ _ 1 #[.string ⟨#[]⟩, .int .i64 0] 23 (0, 0) (heap_alloc_new w _)
  have HZ0 := Lib.hid hz0
  have HZ1 := Lib.hid hz1
  have HF : Hid (∀ i, (w.alloc (.cells #[.string ⟨#[]⟩, .int .i64 0] 23)).frozen? ⟨w.heap.size, i, none⟩ = false) := Lib.hid (fun i => (Blk.new w 23 #[.string ⟨#[]⟩, .int .i64 0]).frozen i)
  clear hz0 hz1
  cases hp : preOk xs (x1 / 256 % 256) with
  | false =>
    go_enter Try.func10, Try.ntmps10
    go_wp2_with (first
      | (go_at_call 19; refine (size0_any _).mono ?_; rintro e w' ⟨rfl, hw'⟩; rw [hw']; clear hw')
      | (go_at_call 22; refine (hpre _ (HR.out.on (below_al w _)) HX1.out HLT.out).mono ?_
         rintro e w2 ⟨rfl, hb2⟩
         rw [hp]
         have c0 : w2.cell? ⟨w.heap.size, 0, none⟩ = some (.string ⟨#[]⟩) := (hb2.cell (by simp)).trans HZ0.out
         have c1 : w2.cell? ⟨w.heap.size, 1, none⟩ = some (.int .i64 0) := (hb2.cell (by simp)).trans HZ1.out
         have f0 : w2.frozen? ⟨w.heap.size, 0, none⟩ = false := (hb2.frozen (by simp)).trans (HF.out 0)
         have f1 : w2.frozen? ⟨w.heap.size, 1, none⟩ = false := (hb2.frozen (by simp)).trans (HF.out 1)
         have HB2 : Hid (Below w.heap.size w w2) := Lib.hid (after (below_al w _) hb2)
         clear hb2)
      | fail)
    exact bodyPost_ret (v := .tuple #[.agg #[.string ⟨#[]⟩, .int .i64 0], .bool false]) (by simp [results, Try.results10, go_sem, c0, c1]) rfl ⟨_, _, _, rfl, HNO.out hp, (HB2.out.setCell (by simp) _).setCell (by simp) _⟩
  | true =>
    obtain ⟨x4, hx4, hlt4⟩ := H64.out.nat 4
    rw [← List.getD_eq_getElem?_getD] at hx4
    have H4 := Lib.hid hx4
    obtain ⟨K, hK⟩ : ∃ K, K = preS xs (x1 / 256 % 256) := ⟨_, rfl⟩
    obtain ⟨v', hv'⟩ : ∃ v', v' = IntKind.i64.wrap (x4 : Int) := ⟨_, rfl⟩
    have HK := Lib.hid hK.symm
    have hwv : IntKind.i64.wrap (x4 : Int) = v' := hv'.symm
    have HPOS : Hid (∀ k0 v0, leafOk k0 v0 = true → leafW k0 v0 = xs → k0 = K ∧ v0 = v') := Lib.hid (fun k0 v0 h1 h2 => by
      obtain ⟨_, q2, q3⟩ := dec_pos h1 h2 HX1.out
      obtain ⟨_, _, r1, r2⟩ := leafOk_size h1
      refine ⟨by rw [hK, q2], ?_⟩
      rw [hx4] at q3
      rw [hv', q3]
      exact (IntWalk.i64_in _ (by omega)).symm)
    have HKS : Hid (K.size ≤ 9223372036854775807) := Lib.hid (by
      rw [hK]; unfold preS
      rw [if_pos hp, strOfNums_size, bt_len]
      have := Nat.mod_lt (x1 / 256) (show 0 < 256 by omega)
      omega)
    have HL8 := Lib.hid hl
    clear hx4 hlt4 hK hv' hl HNO
    cases hlo : leafOk K v' with
    | true =>
      have HE := Lib.hid (fun w => encLeaf_any K v' HKS.out hlo w)
      by_cases hq : leafW K v' = xs
      · have HQ := Lib.hid hq
        have HDN : Hid (DL xs K v' true) := Lib.hid ⟨fun _ => ⟨hlo, hq⟩, (fun e => by cases e)⟩
        clear hlo hq
        go_enter Try.func10, Try.ntmps10
        go_wp2_with (first
          | (go_at_call 19; refine (size0_any _).mono ?_; rintro e w' ⟨rfl, hw'⟩; rw [hw']; clear hw')
          | (go_at_call 22; refine (hpre _ (HR.out.on (below_al w _)) HX1.out HLT.out).mono ?_
             rintro e w2 ⟨rfl, hb2⟩
             rw [hp, HK.out]
             have c0 : w2.cell? ⟨w.heap.size, 0, none⟩ = some (.string ⟨#[]⟩) := (hb2.cell (by simp)).trans HZ0.out
             have c1 : w2.cell? ⟨w.heap.size, 1, none⟩ = some (.int .i64 0) := (hb2.cell (by simp)).trans HZ1.out
             have f0 : w2.frozen? ⟨w.heap.size, 0, none⟩ = false := (hb2.frozen (by simp)).trans (HF.out 0)
             have f1 : w2.frozen? ⟨w.heap.size, 1, none⟩ = false := (hb2.frozen (by simp)).trans (HF.out 1)
             have HB2 : Hid (Below w.heap.size w w2) := Lib.hid (after (below_al w _) hb2)
             have HR2 : Hid (Reads w2 w2.heap.size 1 (some ⟨g, 0, none⟩) 8 (u64s xs)) := Lib.hid ((HR.out.on (below_al w _)).on hb2)
             have hx4 : w2.cell? ⟨g, 4, none⟩ = some (.int .u64 x4) := rd4 HR2.out H4.out
             clear hb2)
          | (go_at_call 7; refine (HE.out _).mono ?_
             rintro e w3 ⟨ge, rfl, hr3, hb3⟩
             have hb23 := after (below_al w2 (.cells #[.string K, .int .i64 v'] 23)) hb3
             have d0 : w3.cell? ⟨w2.heap.size, 0, none⟩ = some (.string K) := (hb3.cell (by simp)).trans (cell_of_row _ _ 0 #[.string K, .int .i64 v'] 23 (0, 0) (heap_alloc_new w2 _))
             have d1 : w3.cell? ⟨w2.heap.size, 1, none⟩ = some (.int .i64 v') := (hb3.cell (by simp)).trans (cell_of_row _ _ 1 #[.string K, .int .i64 v'] 23 (0, 0) (heap_alloc_new w2 _))
             replace f0 := (hb23.frozen (World.block_lt_of_cell? _ _ c0)).trans f0
             replace f1 := (hb23.frozen (World.block_lt_of_cell? _ _ c1)).trans f1
             replace c0 := (hb23.cell (World.block_lt_of_cell? _ _ c0)).trans c0
             replace c1 := (hb23.cell (World.block_lt_of_cell? _ _ c1)).trans c1
             have HB3 := Lib.hid (after HB2.out hb23)
             have HR3 := Lib.hid (HR2.out.on hb23)
             have HE3 := Lib.hid hr3
             clear hr3
             clear hb3 hb23)
          | (go_at_call 24; refine (equal_any _ (some ⟨ge, 0, none⟩) (some ⟨g, 0, none⟩) 8 8 8 8 (leafW K v') xs _ HE3.out HR3.out (by omega) (by omega)).mono ?_
             rintro e w4 ⟨rfl, hb4⟩
             rw [eqB_true HQ.out]
             replace d0 := (hb4.cell (World.block_lt_of_cell? _ _ d0)).trans d0
             replace d1 := (hb4.cell (World.block_lt_of_cell? _ _ d1)).trans d1
             replace f0 := (hb4.frozen (World.block_lt_of_cell? _ _ c0)).trans f0
             replace f1 := (hb4.frozen (World.block_lt_of_cell? _ _ c1)).trans f1
             replace c0 := (hb4.cell (World.block_lt_of_cell? _ _ c0)).trans c0
             replace c1 := (hb4.cell (World.block_lt_of_cell? _ _ c1)).trans c1
             have HB4 := Lib.hid (after HB3.out hb4)
             clear hb4)
          | fail)
        exact bodyPost_ret (v := .tuple #[.agg #[.string K, .int .i64 v'], .bool true]) (by simp [results, Try.results10, go_sem, c0, c1]) rfl ⟨_, _, _, rfl, HDN.out, (HB4.out.setCell (by simp) _).setCell (by simp) _⟩
      · have HQ : Hid (leafW K v' ≠ xs) := Lib.hid hq
        have HDN : Hid (DL xs ⟨#[]⟩ 0 false) := Lib.hid ⟨(fun e => by cases e), fun _ => ⟨rfl, rfl, fun k0 v0 h1 h2 => by
          obtain ⟨rfl, rfl⟩ := HPOS.out k0 v0 h1 h2
          exact hq h2⟩⟩
        clear hlo hq
        go_enter Try.func10, Try.ntmps10
        go_wp2_with (first
          | (go_at_call 19; refine (size0_any _).mono ?_; rintro e w' ⟨rfl, hw'⟩; rw [hw']; clear hw')
          | (go_at_call 22; refine (hpre _ (HR.out.on (below_al w _)) HX1.out HLT.out).mono ?_
             rintro e w2 ⟨rfl, hb2⟩
             rw [hp, HK.out]
             have c0 : w2.cell? ⟨w.heap.size, 0, none⟩ = some (.string ⟨#[]⟩) := (hb2.cell (by simp)).trans HZ0.out
             have c1 : w2.cell? ⟨w.heap.size, 1, none⟩ = some (.int .i64 0) := (hb2.cell (by simp)).trans HZ1.out
             have f0 : w2.frozen? ⟨w.heap.size, 0, none⟩ = false := (hb2.frozen (by simp)).trans (HF.out 0)
             have f1 : w2.frozen? ⟨w.heap.size, 1, none⟩ = false := (hb2.frozen (by simp)).trans (HF.out 1)
             have HB2 : Hid (Below w.heap.size w w2) := Lib.hid (after (below_al w _) hb2)
             have HR2 : Hid (Reads w2 w2.heap.size 1 (some ⟨g, 0, none⟩) 8 (u64s xs)) := Lib.hid ((HR.out.on (below_al w _)).on hb2)
             have hx4 : w2.cell? ⟨g, 4, none⟩ = some (.int .u64 x4) := rd4 HR2.out H4.out
             clear hb2)
          | (go_at_call 7; refine (HE.out _).mono ?_
             rintro e w3 ⟨ge, rfl, hr3, hb3⟩
             have hb23 := after (below_al w2 (.cells #[.string K, .int .i64 v'] 23)) hb3
             have d0 : w3.cell? ⟨w2.heap.size, 0, none⟩ = some (.string K) := (hb3.cell (by simp)).trans (cell_of_row _ _ 0 #[.string K, .int .i64 v'] 23 (0, 0) (heap_alloc_new w2 _))
             have d1 : w3.cell? ⟨w2.heap.size, 1, none⟩ = some (.int .i64 v') := (hb3.cell (by simp)).trans (cell_of_row _ _ 1 #[.string K, .int .i64 v'] 23 (0, 0) (heap_alloc_new w2 _))
             replace f0 := (hb23.frozen (World.block_lt_of_cell? _ _ c0)).trans f0
             replace f1 := (hb23.frozen (World.block_lt_of_cell? _ _ c1)).trans f1
             replace c0 := (hb23.cell (World.block_lt_of_cell? _ _ c0)).trans c0
             replace c1 := (hb23.cell (World.block_lt_of_cell? _ _ c1)).trans c1
             have HB3 := Lib.hid (after HB2.out hb23)
             have HR3 := Lib.hid (HR2.out.on hb23)
             have HE3 := Lib.hid hr3
             clear hr3
             clear hb3 hb23)
          | (go_at_call 24; refine (equal_any _ (some ⟨ge, 0, none⟩) (some ⟨g, 0, none⟩) 8 8 8 8 (leafW K v') xs _ HE3.out HR3.out (by omega) (by omega)).mono ?_
             rintro e w4 ⟨rfl, hb4⟩
             rw [eqB_false HQ.out]
             replace d0 := (hb4.cell (World.block_lt_of_cell? _ _ d0)).trans d0
             replace d1 := (hb4.cell (World.block_lt_of_cell? _ _ d1)).trans d1
             replace f0 := (hb4.frozen (World.block_lt_of_cell? _ _ c0)).trans f0
             replace f1 := (hb4.frozen (World.block_lt_of_cell? _ _ c1)).trans f1
             replace c0 := (hb4.cell (World.block_lt_of_cell? _ _ c0)).trans c0
             replace c1 := (hb4.cell (World.block_lt_of_cell? _ _ c1)).trans c1
             have HB4 := Lib.hid (after HB3.out hb4)
             clear hb4)
          | fail)
        exact bodyPost_ret (v := .tuple #[.agg #[.string ⟨#[]⟩, .int .i64 0], .bool false]) (by simp [results, Try.results10, go_sem, c0, c1]) rfl ⟨_, _, _, rfl, HDN.out, (HB4.out.setCell (by simp) _).setCell (by simp) _⟩
    | false =>
      have HE := Lib.hid (fun w => encLeaf_nil K v' HKS.out hlo w)
      have HQ : Hid (([] : List Int) ≠ xs) := Lib.hid (fun e => by have := HL8.out; rw [← e] at this; simp at this)
      have HDN : Hid (DL xs ⟨#[]⟩ 0 false) := Lib.hid ⟨(fun e => by cases e), fun _ => ⟨rfl, rfl, fun k0 v0 h1 h2 => by
        obtain ⟨rfl, rfl⟩ := HPOS.out k0 v0 h1 h2
        rw [hlo] at h1; cases h1⟩⟩
      clear hlo
      go_enter Try.func10, Try.ntmps10
      go_wp2_with (first
        | (go_at_call 19; refine (size0_any _).mono ?_; rintro e w' ⟨rfl, hw'⟩; rw [hw']; clear hw')
        | (go_at_call 22; refine (hpre _ (HR.out.on (below_al w _)) HX1.out HLT.out).mono ?_
           rintro e w2 ⟨rfl, hb2⟩
           rw [hp, HK.out]
           have c0 : w2.cell? ⟨w.heap.size, 0, none⟩ = some (.string ⟨#[]⟩) := (hb2.cell (by simp)).trans HZ0.out
           have c1 : w2.cell? ⟨w.heap.size, 1, none⟩ = some (.int .i64 0) := (hb2.cell (by simp)).trans HZ1.out
           have f0 : w2.frozen? ⟨w.heap.size, 0, none⟩ = false := (hb2.frozen (by simp)).trans (HF.out 0)
           have f1 : w2.frozen? ⟨w.heap.size, 1, none⟩ = false := (hb2.frozen (by simp)).trans (HF.out 1)
           have HB2 : Hid (Below w.heap.size w w2) := Lib.hid (after (below_al w _) hb2)
           have HR2 : Hid (Reads w2 w2.heap.size 1 (some ⟨g, 0, none⟩) 8 (u64s xs)) := Lib.hid ((HR.out.on (below_al w _)).on hb2)
           have hx4 : w2.cell? ⟨g, 4, none⟩ = some (.int .u64 x4) := rd4 HR2.out H4.out
           clear hb2)
        | (go_at_call 7; refine (HE.out _).mono ?_
           rintro e w3 ⟨rfl, hb3⟩
           have hb23 := after (below_al w2 (.cells #[.string K, .int .i64 v'] 23)) hb3
           have d0 : w3.cell? ⟨w2.heap.size, 0, none⟩ = some (.string K) := (hb3.cell (by simp)).trans (cell_of_row _ _ 0 #[.string K, .int .i64 v'] 23 (0, 0) (heap_alloc_new w2 _))
           have d1 : w3.cell? ⟨w2.heap.size, 1, none⟩ = some (.int .i64 v') := (hb3.cell (by simp)).trans (cell_of_row _ _ 1 #[.string K, .int .i64 v'] 23 (0, 0) (heap_alloc_new w2 _))
           replace f0 := (hb23.frozen (World.block_lt_of_cell? _ _ c0)).trans f0
           replace f1 := (hb23.frozen (World.block_lt_of_cell? _ _ c1)).trans f1
           replace c0 := (hb23.cell (World.block_lt_of_cell? _ _ c0)).trans c0
           replace c1 := (hb23.cell (World.block_lt_of_cell? _ _ c1)).trans c1
           have HB3 := Lib.hid (after HB2.out hb23)
           have HR3 := Lib.hid (HR2.out.on hb23)
           skip
           clear hb3 hb23)
        | (go_at_call 24; refine (equal_any _ none (some ⟨g, 0, none⟩) 0 8 0 8 [] xs _ Reads.none_ HR3.out (by omega) (by omega)).mono ?_
           rintro e w4 ⟨rfl, hb4⟩
           rw [eqB_false HQ.out]
           replace d0 := (hb4.cell (World.block_lt_of_cell? _ _ d0)).trans d0
           replace d1 := (hb4.cell (World.block_lt_of_cell? _ _ d1)).trans d1
           replace f0 := (hb4.frozen (World.block_lt_of_cell? _ _ c0)).trans f0
           replace f1 := (hb4.frozen (World.block_lt_of_cell? _ _ c1)).trans f1
           replace c0 := (hb4.cell (World.block_lt_of_cell? _ _ c0)).trans c0
           replace c1 := (hb4.cell (World.block_lt_of_cell? _ _ c1)).trans c1
           have HB4 := Lib.hid (after HB3.out hb4)
           clear hb4)
        | fail)
      exact bodyPost_ret (v := .tuple #[.agg #[.string ⟨#[]⟩, .int .i64 0], .bool false]) (by simp [results, Try.results10, go_sem, c0, c1]) rfl ⟨_, _, _, rfl, HDN.out, (HB4.out.setCell (by simp) _).setCell (by simp) _⟩
end Go.Proofs.Ytkobgejeapcfkaa
