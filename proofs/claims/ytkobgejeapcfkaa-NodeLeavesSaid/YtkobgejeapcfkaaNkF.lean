/-
  NodeLeafApart: two right leaves have the same words just if they are the same; a leaf's words are no node's; condition: lengths that fit an int.
-/
import Derived.Test.YtkobgejeapcfkaaNkE
import Derived.Test.YtkobgejeapcfkaaRuns
import Derived.Laws.StructEq
namespace Go.Proofs.Ytkobgejeapcfkaa
open Go.RowKit Go.WideShapes Go.ChangeShapes
set_option linter.all false
set_option maxRecDepth 100000 in
set_option maxHeartbeats 3200000 in
theorem apart_any (ka kb : ByteArray) (va vb : Int) (ha : ka.size ≤ 9223372036854775807) (hb : kb.size ≤ 9223372036854775807) (w : World) : Calls Try.prog 3 #[.agg #[.string ka, .int .i64 va], .agg #[.string kb, .int .i64 vb]] w fun e w' => e = .returned (.bool true) ∧ Below w.heap.size w w' := by
  obtain ⟨pa, hpa⟩ : ∃ p, p = ka.extract 0 (min (ka.size : Int) 30).toNat := ⟨_, rfl⟩
  obtain ⟨pb, hpb⟩ : ∃ p, p = kb.extract 0 (min (kb.size : Int) 30).toNat := ⟨_, rfl⟩
  have HPA := Lib.hid hpa
  have HPB := Lib.hid hpb
  have HSA : Hid (pa.size ≤ 30) := Lib.hid (by rw [hpa, ByteArray.size_extract]; omega)
  have HSB : Hid (pb.size ≤ 30) := Lib.hid (by rw [hpb, ByteArray.size_extract]; omega)
  clear hpa hpb
  go_enter Try.func3, Try.ntmps3
  go_wp2
  go_region
  rw [← HPA.out, ← HPB.out]
  obtain ⟨w0, hw0⟩ : ∃ w0, w0 = ((w.alloc (.cells #[.string pa, .int .i64 va] 23)).alloc (.cells #[.string pb, .int .i64 vb] 23)).drew := ⟨_, rfl⟩
  have k1 : w0.cell? ⟨w.heap.size, 0, none⟩ = some (.string pa) := by
    rw [hw0]; exact (World.cell?_alloc_lt _ _ _ (by simp)).trans (cell_of_row _ _ 0 #[.string pa, .int .i64 va] 23 (0, 0) (heap_alloc_new w _))
  have k2 : w0.cell? ⟨w.heap.size, 1, none⟩ = some (.int .i64 va) := by
    rw [hw0]; exact (World.cell?_alloc_lt _ _ _ (by simp)).trans (cell_of_row _ _ 1 #[.string pa, .int .i64 va] 23 (0, 0) (heap_alloc_new w _))
  have e1 : (w.alloc (.cells #[.string pa, .int .i64 va] 23)).heap.size = w.heap.size + 1 := by simp
  have k3 : w0.cell? ⟨w.heap.size + 1, 0, none⟩ = some (.string pb) := by
    rw [hw0, ← e1]; exact cell_of_row _ _ 0 #[.string pb, .int .i64 vb] 23 (0, 0) (heap_alloc_new (w.alloc (.cells #[.string pa, .int .i64 va] 23)) _)
  have k4 : w0.cell? ⟨w.heap.size + 1, 1, none⟩ = some (.int .i64 vb) := by
    rw [hw0, ← e1]; exact cell_of_row _ _ 1 #[.string pb, .int .i64 vb] 23 (0, 0) (heap_alloc_new (w.alloc (.cells #[.string pa, .int .i64 va] 23)) _)
  have HB : Hid (Below w.heap.size w w0) := Lib.hid (by
    rw [hw0]
    exact (((Below.refl w.heap.size w).alloc (Nat.le_refl _) _).alloc (by simp) _).drew)
  rw [← hw0]
  clear hw0 e1 HPA HPB ha hb
  have hra := rightLeaf_any pa va (by have := HSA.out; omega)
  have hrb := rightLeaf_any pb vb (by have := HSB.out; omega)
  cases hoa : leafOk pa va with
  | false =>
    rw [hoa] at hra
    go_wp2_with (first
      | (go_at_call 5; refine (hra _).mono ?_
         rintro e w1 ⟨rfl, hb1⟩
         replace HB := Lib.hid (after HB.out hb1)
         clear hb1)
      | (go_at_call 6; refine (runs_any _).mono ?_
         rintro e w2 ⟨rfl, hb2⟩
         replace HB := Lib.hid (after HB.out hb2)
         clear hb2)
      | fail)
    go_ret
    exact ⟨rfl, HB.out⟩
  | true =>
    rw [hoa] at hra
    have F1 : Hid True := Lib.hid trivial
    have F2 : Hid True := Lib.hid trivial
    cases hob : leafOk pb vb with
    | false =>
      rw [hob] at hrb
      go_wp2_with (first
        | (go_at_call 5; clear F1; refine (hra _).mono ?_
           rintro e w1 ⟨rfl, hb1⟩
           replace k1 := (hb1.cell (World.block_lt_of_cell? _ _ k1)).trans k1
           replace k2 := (hb1.cell (World.block_lt_of_cell? _ _ k2)).trans k2
           replace k3 := (hb1.cell (World.block_lt_of_cell? _ _ k3)).trans k3
           replace k4 := (hb1.cell (World.block_lt_of_cell? _ _ k4)).trans k4
           replace HB := Lib.hid (after HB.out hb1)
           clear hb1)
        | (go_at_call 5; clear F2; refine (hrb _).mono ?_
           rintro e w2 ⟨rfl, hb2⟩
           replace k1 := (hb2.cell (World.block_lt_of_cell? _ _ k1)).trans k1
           replace k2 := (hb2.cell (World.block_lt_of_cell? _ _ k2)).trans k2
           replace k3 := (hb2.cell (World.block_lt_of_cell? _ _ k3)).trans k3
           replace k4 := (hb2.cell (World.block_lt_of_cell? _ _ k4)).trans k4
           replace HB := Lib.hid (after HB.out hb2)
           clear hb2)
        | (go_at_call 6; refine (runs_any _).mono ?_
           rintro e w2 ⟨rfl, hb2⟩
           replace HB := Lib.hid (after HB.out hb2)
           clear hb2)
        | fail)
      go_ret
      exact ⟨rfl, HB.out⟩
    | true =>
      rw [hob] at hrb
      go_wp2_with (first
        | (go_at_call 5; clear F1; refine (hra _).mono ?_
           rintro e w1 ⟨rfl, hb1⟩
           replace k1 := (hb1.cell (World.block_lt_of_cell? _ _ k1)).trans k1
           replace k2 := (hb1.cell (World.block_lt_of_cell? _ _ k2)).trans k2
           replace k3 := (hb1.cell (World.block_lt_of_cell? _ _ k3)).trans k3
           replace k4 := (hb1.cell (World.block_lt_of_cell? _ _ k4)).trans k4
           replace HB := Lib.hid (after HB.out hb1)
           clear hb1)
        | (go_at_call 5; clear F2; refine (hrb _).mono ?_
           rintro e w2 ⟨rfl, hb2⟩
           replace k1 := (hb2.cell (World.block_lt_of_cell? _ _ k1)).trans k1
           replace k2 := (hb2.cell (World.block_lt_of_cell? _ _ k2)).trans k2
           replace k3 := (hb2.cell (World.block_lt_of_cell? _ _ k3)).trans k3
           replace k4 := (hb2.cell (World.block_lt_of_cell? _ _ k4)).trans k4
           replace HB := Lib.hid (after HB.out hb2)
           clear hb2)
        | fail)
      have HEA := Lib.hid (fun w => encLeaf_any pa va (by have := HSA.out; omega) hoa w)
      have HEB := Lib.hid (fun w => encLeaf_any pb vb (by have := HSB.out; omega) hob w)
      have HOA := Lib.hid (leafOk_size hoa)
      have HOB := Lib.hid (leafOk_size hob)
      clear hra hrb hoa hob
      have F3 : Hid True := Lib.hid trivial
      replace k1 : w2.drew.cell? ⟨w.heap.size, 0, none⟩ = some (.string pa) := k1
      replace k2 : w2.drew.cell? ⟨w.heap.size, 1, none⟩ = some (.int .i64 va) := k2
      replace k3 : w2.drew.cell? ⟨w.heap.size + 1, 0, none⟩ = some (.string pb) := k3
      replace k4 : w2.drew.cell? ⟨w.heap.size + 1, 1, none⟩ = some (.int .i64 vb) := k4
      replace HB := Lib.hid HB.out.drew
      go_region_held3 (fun w' => w'.cell? ⟨w.heap.size, 0, none⟩ = some (.string pa) ∧ w'.cell? ⟨w.heap.size, 1, none⟩ = some (.int .i64 va) ∧ w'.cell? ⟨w.heap.size + 1, 0, none⟩ = some (.string pb) ∧ w'.cell? ⟨w.heap.size + 1, 1, none⟩ = some (.int .i64 vb)) (first | (go_keep; done) | exact ⟨k1, k2, k3, k4⟩)
        (first
          | (go_at_call 7; clear F3; refine (HEA.out _).mono ?_
             rintro e w3 ⟨ga, rfl, hr3, hb3⟩
             replace k1 := (hb3.cell (World.block_lt_of_cell? _ _ k1)).trans k1
             replace k2 := (hb3.cell (World.block_lt_of_cell? _ _ k2)).trans k2
             replace k3 := (hb3.cell (World.block_lt_of_cell? _ _ k3)).trans k3
             replace k4 := (hb3.cell (World.block_lt_of_cell? _ _ k4)).trans k4
             have HRA := Lib.hid hr3
             replace HB := Lib.hid (after HB.out hb3)
             clear hr3 hb3)
          | (go_at_call 7; refine (HEB.out _).mono ?_
             rintro e w4 ⟨gb, rfl, hr4, hb4⟩
             replace k1 := (hb4.cell (World.block_lt_of_cell? _ _ k1)).trans k1
             replace k2 := (hb4.cell (World.block_lt_of_cell? _ _ k2)).trans k2
             replace k3 := (hb4.cell (World.block_lt_of_cell? _ _ k3)).trans k3
             replace k4 := (hb4.cell (World.block_lt_of_cell? _ _ k4)).trans k4
             have HRB := Lib.hid hr4
             replace HRA := Lib.hid (HRA.out.on hb4)
             replace HB := Lib.hid (after HB.out hb4)
             clear hr4 hb4))
      go_wp2_with (first
        | (go_at_call 8; refine (decode_leaf pa va HOA.out.2.1 ga _ HRA.out).mono ?_
           rintro e w5 ⟨rfl, hb5⟩
           replace k1 := (hb5.cell (World.block_lt_of_cell? _ _ k1)).trans k1
           replace k2 := (hb5.cell (World.block_lt_of_cell? _ _ k2)).trans k2
           replace k3 := (hb5.cell (World.block_lt_of_cell? _ _ k3)).trans k3
           replace k4 := (hb5.cell (World.block_lt_of_cell? _ _ k4)).trans k4
           replace HRA := Lib.hid (HRA.out.on hb5)
           replace HRB := Lib.hid (HRB.out.on hb5)
           replace HB := Lib.hid (after HB.out hb5)
           clear hb5)
        | fail)
      obtain ⟨w6, hw6⟩ : ∃ w6, w6 = w5.alloc (.cells #[.int .i64 0, .int .u64 0, .string ⟨#[]⟩, .slice none 0 0, .slice none 0 0] 32) := ⟨_, rfl⟩
      have hb6 : Below w5.heap.size w5 w6.drew := by rw [hw6]; exact ((Below.refl _ _).alloc (Nat.le_refl _) _).drew
      rw [← hw6]
      replace k1 := (hb6.cell (World.block_lt_of_cell? _ _ k1)).trans k1
      replace k2 := (hb6.cell (World.block_lt_of_cell? _ _ k2)).trans k2
      replace k3 := (hb6.cell (World.block_lt_of_cell? _ _ k3)).trans k3
      replace k4 := (hb6.cell (World.block_lt_of_cell? _ _ k4)).trans k4
      replace HRA : Hid (Reads w6.drew w6.drew.heap.size 1 (some ⟨ga, 0, none⟩) 8 (u64s (leafW pa va))) := Lib.hid (HRA.out.on hb6)
      replace HRB : Hid (Reads w6.drew w6.drew.heap.size 1 (some ⟨gb, 0, none⟩) 8 (u64s (leafW pb vb))) := Lib.hid (HRB.out.on hb6)
      replace HB := Lib.hid (after HB.out hb6)
      clear hw6 hb6
      have toL : ∀ x y : ByteArray, x.toList = y.toList → x = y := fun x y h => ByteArray.ext (Array.ext' (by rw [ByteArray.toList_eq, ByteArray.toList_eq] at h; exact h))
      by_cases hp : pa = pb
      · have e2 : (pa.toList == pb.toList) = true := by rw [hp]; exact beq_self_eq_true _
        by_cases hv : va = vb
        · have e3 : (va == vb) = true := by rw [hv]; exact beq_self_eq_true _
          have HE : Hid (leafW pa va = leafW pb vb) := Lib.hid (by rw [hp, hv])
          clear hp hv toL
          go_region_held3 (fun w' => w'.cell? ⟨w.heap.size, 0, none⟩ = some (.string pa) ∧ w'.cell? ⟨w.heap.size, 1, none⟩ = some (.int .i64 va) ∧ w'.cell? ⟨w.heap.size + 1, 0, none⟩ = some (.string pb) ∧ w'.cell? ⟨w.heap.size + 1, 1, none⟩ = some (.int .i64 vb)) (first | (go_keep; done) | exact ⟨k1, k2, k3, k4⟩)
            (first
              | (go_at_call 9; refine (same_any _ _ _ _ _ _ _ (leafW pa va) (leafW pb vb) _ HRA.out HRB.out (by omega) (by omega)).mono ?_
                 rintro e w7 ⟨rfl, hb7⟩
                 rw [eqB_true HE.out]
                 replace k1 := (hb7.cell (World.block_lt_of_cell? _ _ k1)).trans k1
                 replace k2 := (hb7.cell (World.block_lt_of_cell? _ _ k2)).trans k2
                 replace k3 := (hb7.cell (World.block_lt_of_cell? _ _ k3)).trans k3
                 replace k4 := (hb7.cell (World.block_lt_of_cell? _ _ k4)).trans k4
                 replace HB := Lib.hid (after HB.out hb7)
                 clear hb7)
              | (go_at_call 6; refine (runs_any _).mono ?_
                 rintro e w8 ⟨rfl, hb8⟩
                 replace k1 := (hb8.cell (World.block_lt_of_cell? _ _ k1)).trans k1
                 replace k2 := (hb8.cell (World.block_lt_of_cell? _ _ k2)).trans k2
                 replace k3 := (hb8.cell (World.block_lt_of_cell? _ _ k3)).trans k3
                 replace k4 := (hb8.cell (World.block_lt_of_cell? _ _ k4)).trans k4
                 replace HB := Lib.hid (after HB.out hb8)
                 clear hb8))
          all_goals
            go_wp2
            go_ret
            exact ⟨rfl, HB.out⟩
        · have e3 : (va == vb) = false := by simpa using hv
          have HNE : Hid (leafW pa va ≠ leafW pb vb) := Lib.hid (fun h => hv (leafW_inj (by have := HOA.out.2.1; unfold cnt; omega) h).2)
          clear hp hv toL
          go_region_held3 (fun w' => w'.cell? ⟨w.heap.size, 0, none⟩ = some (.string pa) ∧ w'.cell? ⟨w.heap.size, 1, none⟩ = some (.int .i64 va) ∧ w'.cell? ⟨w.heap.size + 1, 0, none⟩ = some (.string pb) ∧ w'.cell? ⟨w.heap.size + 1, 1, none⟩ = some (.int .i64 vb)) (first | (go_keep; done) | exact ⟨k1, k2, k3, k4⟩)
            (first
              | (go_at_call 9; refine (same_any _ _ _ _ _ _ _ (leafW pa va) (leafW pb vb) _ HRA.out HRB.out (by omega) (by omega)).mono ?_
                 rintro e w7 ⟨rfl, hb7⟩
                 rw [eqB_false HNE.out]
                 replace k1 := (hb7.cell (World.block_lt_of_cell? _ _ k1)).trans k1
                 replace k2 := (hb7.cell (World.block_lt_of_cell? _ _ k2)).trans k2
                 replace k3 := (hb7.cell (World.block_lt_of_cell? _ _ k3)).trans k3
                 replace k4 := (hb7.cell (World.block_lt_of_cell? _ _ k4)).trans k4
                 replace HB := Lib.hid (after HB.out hb7)
                 clear hb7)
              | (go_at_call 6; refine (runs_any _).mono ?_
                 rintro e w8 ⟨rfl, hb8⟩
                 replace k1 := (hb8.cell (World.block_lt_of_cell? _ _ k1)).trans k1
                 replace k2 := (hb8.cell (World.block_lt_of_cell? _ _ k2)).trans k2
                 replace k3 := (hb8.cell (World.block_lt_of_cell? _ _ k3)).trans k3
                 replace k4 := (hb8.cell (World.block_lt_of_cell? _ _ k4)).trans k4
                 replace HB := Lib.hid (after HB.out hb8)
                 clear hb8))
          all_goals
            go_wp2
            go_ret
            exact ⟨rfl, HB.out⟩
      · have e2 : (pa.toList == pb.toList) = false := by
          have : ¬ pa.toList = pb.toList := fun h => hp (toL _ _ h)
          simpa using this
        have HNE : Hid (leafW pa va ≠ leafW pb vb) := Lib.hid (fun h => hp (leafW_inj (by have := HOA.out.2.1; unfold cnt; omega) h).1)
        clear hp toL
        go_region_held3 (fun w' => w'.cell? ⟨w.heap.size, 0, none⟩ = some (.string pa) ∧ w'.cell? ⟨w.heap.size, 1, none⟩ = some (.int .i64 va) ∧ w'.cell? ⟨w.heap.size + 1, 0, none⟩ = some (.string pb) ∧ w'.cell? ⟨w.heap.size + 1, 1, none⟩ = some (.int .i64 vb)) (first | (go_keep; done) | exact ⟨k1, k2, k3, k4⟩)
          (first
            | (go_at_call 9; refine (same_any _ _ _ _ _ _ _ (leafW pa va) (leafW pb vb) _ HRA.out HRB.out (by omega) (by omega)).mono ?_
               rintro e w7 ⟨rfl, hb7⟩
               rw [eqB_false HNE.out]
               replace k1 := (hb7.cell (World.block_lt_of_cell? _ _ k1)).trans k1
               replace k2 := (hb7.cell (World.block_lt_of_cell? _ _ k2)).trans k2
               replace k3 := (hb7.cell (World.block_lt_of_cell? _ _ k3)).trans k3
               replace k4 := (hb7.cell (World.block_lt_of_cell? _ _ k4)).trans k4
               replace HB := Lib.hid (after HB.out hb7)
               clear hb7)
            | (go_at_call 6; refine (runs_any _).mono ?_
               rintro e w8 ⟨rfl, hb8⟩
               replace k1 := (hb8.cell (World.block_lt_of_cell? _ _ k1)).trans k1
               replace k2 := (hb8.cell (World.block_lt_of_cell? _ _ k2)).trans k2
               replace k3 := (hb8.cell (World.block_lt_of_cell? _ _ k3)).trans k3
               replace k4 := (hb8.cell (World.block_lt_of_cell? _ _ k4)).trans k4
               replace HB := Lib.hid (after HB.out hb8)
               clear hb8))
        all_goals
          go_wp2
          go_ret
          exact ⟨rfl, HB.out⟩
end Go.Proofs.Ytkobgejeapcfkaa
