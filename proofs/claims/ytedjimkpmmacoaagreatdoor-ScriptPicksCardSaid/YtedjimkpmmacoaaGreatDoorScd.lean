/-
  script.Decode at bytes that have no operations: clients without any, and picks; conditions: bytes, a length.
-/
import Derived.Test.YtedjimkpmmacoaaGreatDoorScb
import Derived.Deep.CutBlock
import Derived.Deep.CutRange
namespace Go.Proofs.YtedjimkpmmacoaaGreatDoor
open Go.RowKit Go.WideShapes Go.ChangeShapes
set_option linter.all false
theorem infoI : (Tryz.prog.info? 3).map (fun i => (i.zero, i.size, i.bytes)) = some (some (.int .i64 0), 1, 8) := by kernel_rfl
theorem infoO : (Tryz.prog.info? 36).map (fun i => (i.zero, i.size, i.bytes)) = some (some (.slice none 0 0), 1, 24) := by kernel_rfl
/-- Clients without operations. -/
def OB (w : World) (g C : Nat) : Prop := w.heap[g]? = some (.cells (List.replicate C (Value.slice none 0 0)).toArray 36 (0, 0))
theorem own_ob {w : World} {B g C : Nat} (h : w.ownsRow B 36 1 (.slice (some ⟨g, 0, none⟩) C C) C (List.replicate C (Value.slice none 0 0))) : OB w g C := by
  rcases h.2 with ⟨h', _⟩ | ⟨g', cap', cur, h', hb, hg, hnc, hcm, hcs, htake⟩
  · cases h'
  · simp only [Value.slice.injEq, Option.some.injEq, Addr.mk.injEq, and_true, true_and] at h'
    obtain ⟨rfl, rfl⟩ := h'
    have : cur = (List.replicate C (Value.slice none 0 0)).toArray := by
      apply Array.ext'
      rw [← htake, List.take_of_length_le (by simp [hcs])]
    unfold OB
    rw [hg, this]
theorem zeros_o (n : Nat) : (madeCells (Value.slice none 0 0).cells (n * 1)).toList = List.replicate n (Value.slice none 0 0) := by
  unfold madeCells
  apply List.ext_getElem <;> simp [Value.cells, Nat.mod_one]
theorem OB.below {w w' : World} {B g C : Nat} (h : OB w g C) (k : Below B w w') (hg : g < B) : OB w' g C := (k.block g hg).trans h
def picksOf (C : Nat) (l : List Int) : List Int := l.map fun b => b % ((C : Int) + 1)
theorem kget {w : World} {B n : Nat} {A : Option Addr} {xs : List Int} {k : IntKind} (h : Reads w B 1 A n (xs.map (Value.int k))) {i : Nat} (hi : i < n) : ∃ ad, A = some ad ∧ (ad.add i).block < B ∧ w.cell? (ad.add i) = some (.int k (xs.getD i 0)) := by
  obtain ⟨ad, e, hb, hc⟩ := h.2 (by omega)
  have hl : xs.length = n := by simpa using h.1
  refine ⟨ad, e, by unfold Addr.add; split <;> exact hb, hc i _ ?_⟩
  rw [List.getElem?_map, List.getElem?_eq_getElem (by omega), List.getD_eq_getElem?_getD, List.getElem?_eq_getElem (by omega)]; rfl
def DecP (W : World) (C m : Nat) (ls : List Int) (e : Ending) (w' : World) : Prop := ∃ g v, e = .returned (.tuple #[.slice (some ⟨g, 0, none⟩) C C, v]) ∧ W.heap.size ≤ g ∧ OB w' g C ∧ Mid w' W.heap.size 3 1 v m ((picksOf C ls).map (Value.int .i64)) ∧ Below W.heap.size W w'
set_option maxRecDepth 100000 in
set_option maxHeartbeats 400000 in
theorem decodeP_any (A : Option Addr) (n c0 C m b0 : Nat) (ls : List Int) (w : World) (hx : Reads w w.heap.size 1 A n ((((b0 : Nat) : Int) :: 255 :: ls).map (Value.int .u8))) (hf1 : b0 < 256) (hq : 1 + (b0 : Int) % 8 = (C : Int)) (hb : ∀ z ∈ ls, 0 ≤ z ∧ z < 256) (hm : ls.length = m) (hn : m ≤ 300) :
    Calls Tryz.prog 15 #[.slice A n c0] w (DecP w C m ls) := by
  obtain ⟨ii, ji, jz0, jz1, jz2⟩ := info_parts infoI
  obtain ⟨io, oi, oz0, oz1, oz2⟩ := info_parts infoO
  have hl : n = m + 2 := by have := hx.1; simp at this; omega
  have HN := Lib.hid hl
  have HX := Lib.hid hx
  have HBY := Lib.hid hb
  have HM := Lib.hid hm
  have hq8 : C ≤ 8 := by omega
  have hq1 : 1 ≤ C := by omega
  obtain ⟨a0, e0, hb0, g0⟩ := kget hx (i := 0) (by omega)
  have g0' : w.cell? a0 = some (.int .u8 (b0 : Nat)) := by
    have e : a0.add 0 = a0 := by unfold Addr.add; rw [if_pos rfl]
    rw [e] at g0; exact g0
  obtain ⟨a1, e1, hb1, g1⟩ := kget hx (i := 1) (by omega)
  obtain rfl : a0 = a1 := Option.some.inj (e0.symm.trans e1)
  have G1 : Hid ((a0.add 1).block < w.heap.size ∧ w.cell? (a0.add 1) = some (.int .u8 255)) := Lib.hid ⟨hb1, g1⟩
  have n0 : (0 : Int) < (n : Int) := by omega
  have n1 : (1 : Int) < (n : Int) := by omega
  have n2 : ((n : Int) == 0) = false := by simp; omega
  have n3 : IntKind.i64.wrap ((n : Int) - 1) = (n : Int) - 1 := IntWalk.i64_in _ (by omega)
  have n4 : n ≤ 302 := by omega
  clear hl
  have w1 : IntKind.i64.wrap (b0 : Int) = (b0 : Int) := IntWalk.i64_in _ (by omega)
  have w2 : IntKind.i64.wrap (C : Int) = (C : Int) := IntWalk.i64_in _ (by omega)
  have w3 : wrap64 (C : Int) = (C : Int) := IntWalk.wrap64_in _ (by omega)
  subst e0
  clear hx hb hm g0 hb0 g1 hb1 e1
  have HQ := Lib.hid hq
  clear hq w2 w3
  go_enter Tryz.func15, Tryz.ntmps15
  go_upto_region 4 with (fail)
  rw [HQ.out]
  go_upto_region 5 with (first
    | (refine wpList_make_full _ rfl (.tmp 20) (.tmp 20) 46 rfl w.heap.size 36 io (.slice none 0 0) 1 Tryz.underlying46 oi oz0 oz1 .i64 .i64 _ _ C rfl rfl rfl rfl (by rw [oz2]; omega) (by unfold maxLen; omega) (Nat.le_refl _) ?_
       intro w1 hown hg1
       rw [zeros_o] at hown
       have HO := Lib.hid (own_ob hown)
       have HB1 : Hid (Below w.heap.size w w1) := Lib.hid ((Below.refl _ _).grown hg1 (Nat.le_refl _) (by simp))
       clear hown hg1)
    | fail)
  have g1 : w1.cell? (a0.add 1) = some (.int .u8 255) := (HB1.out.cell G1.out.1).trans G1.out.2
  have e1 : a0.add 1 = ⟨a0.block, a0.off + 1, none⟩ := by unfold Addr.add; rw [if_neg (by omega)]
  rw [e1] at g1
  clear g0' e1
  have HO0 : Hid (OB w1 w.heap.size C ∧ Below w.heap.size w w1) := Lib.hid ⟨HO.out, HB1.out⟩
  go_wp2
  go_loopw [6, 7] (fun p _ wr => p = .int .i64 1 ∧ Hid (OB wr w.heap.size C ∧ Below w.heap.size w wr)) (fun _ _ _ => 0)
  case atStart => exact ⟨rfl, HO0⟩
  case round =>
    obtain ⟨rfl, H⟩ := hrel
    have g1 : wr.cell? (a0.add 1) = some (.int .u8 255) := (H.out.2.cell G1.out.1).trans G1.out.2
    have e1 : a0.add 1 = ⟨a0.block, a0.off + 1, none⟩ := by unfold Addr.add; rw [if_neg (by omega)]
    rw [e1] at g1
    clear e1
    by_cases h3 : (3 : Int) ≤ (n : Int) - 1
    · skip
      go_wp2
      go_loopw [8, 9] (fun v i wr => ∃ (t j c : Nat) (D : Option Addr), i = .int .i64 t ∧ v = .slice D j c ∧ j ≤ m ∧ t ≤ 302 ∧ Hid (t = j + 2 ∧ Mid wr w.heap.size 3 1 (.slice D j c) j ((picksOf C (ls.take j)).map (Value.int .i64)) ∧ OB wr w.heap.size C ∧ Below w.heap.size w wr)) (fun v i _ => n - (intOf i).toNat)
      case atStart => exact ⟨2, 0, 0, none, rfl, rfl, Nat.zero_le _, by omega, Lib.hid ⟨rfl, Mid.nil _ _ _ _, H.out⟩⟩
      case round =>
        obtain ⟨t, j, c, D, rfl, rfl, hj, ht9, K⟩ := hrel
        have ht := K.out.1
        have hn2 := HN.out
        by_cases hlt : t < n
        · have ht1 : (t : Int) < n := by omega
          obtain ⟨ad, ea, hba, ga⟩ := kget HX.out hlt
          obtain rfl : a0 = ad := Option.some.inj ea
          have gz : wr.cell? (a0.add t) = some (.int .u8 (ls.getD j 0)) := by
            have e2 : (((b0 : Nat) : Int) :: 255 :: ls).getD t 0 = ls.getD j 0 := by rw [ht]; rfl
            rw [e2] at ga
            exact (K.out.2.2.2.cell hba).trans ga
          have hz := HBY.out (ls.getD j 0) (by
            have hjl : j < ls.length := by rw [HM.out]; omega
            rw [List.getD_eq_getElem?_getD, List.getElem?_eq_getElem hjl]; exact List.getElem_mem hjl)
          have hsnoc : picksOf C (ls.take (j + 1)) = picksOf C (ls.take j) ++ [ls.getD j 0 % ((C : Int) + 1)] := by
            have hjl : j < ls.length := by rw [HM.out]; omega
            unfold picksOf
            rw [List.take_succ_eq_append_getElem hjl, List.map_append, List.getD_eq_getElem?_getD, List.getElem?_eq_getElem hjl]; rfl
          have HSN := Lib.hid hsnoc
          clear hsnoc ga ea hba
          generalize ls.getD j 0 = z at *
          obtain ⟨z, rfl⟩ := Int.eq_ofNat_of_zero_le hz.1
          have hz2 : z < 256 := by omega
          have hd0 : ¬ ((C : Int) + 1 = 0) := by omega
          have hd1 : ((C : Int) + 1 == 0) = false := by simp; omega
          clear hz
          have HMA : Hid (Mid (wr.alloc (.cells #[.int .i64 ((z : Int) % ((C : Int) + 1))] 3)) w.heap.size 3 1 (.slice D j c) j ((picksOf C (ls.take j)).map (Value.int .i64))) := Lib.hid (K.out.2.1.same fun g hg => heap_alloc_old _ _ (K.out.2.1.lt g hg).2)
          have HOA : Hid (OB (wr.alloc (.cells #[.int .i64 ((z : Int) % ((C : Int) + 1))] 3)) w.heap.size C) := Lib.hid ((heap_alloc_old _ _ (by
            rcases Nat.lt_or_ge w.heap.size wr.heap.size with q | q
            · exact q
            · have := K.out.2.2.1; unfold OB at this; rw [Array.getElem?_eq_none q] at this; cases this)).trans K.out.2.2.1)
          clear ht hn2
          go_wp2_with (first
            | (refine wpList_append_mid rfl (.tmp 74) (.tmp 83) 47 rfl w.heap.size 3 ii _ 1 8 Tryz.underlying47 ji jz0 jz1 jz2 rfl (by omega) (.slice D j c) j _ rfl HMA.out ⟨_, 0, none⟩ 1 1 [.int .i64 ((z : Int) % ((C : Int) + 1))] rfl rfl (World.news_of_block (cs := #[.int .i64 ((z : Int) % ((C : Int) + 1))]) (t := 3) (fr := (0, 0)) (heap_alloc_new _ _)) (by simp [Value.oneCell']) (by unfold maxLen; omega) (by omega) (by have := K.out.2.2.2.size; simp; omega) ?_
               intro v' w3 hmm hran
               have HB3 : Hid (Below w.heap.size w w3) := Lib.hid (K.out.2.2.2.grown hran.alloc.grown K.out.2.2.2.size (fun g hg => (K.out.2.1.lt g hg).1))
               have HO3 : Hid (OB w3 w.heap.size C) := Lib.hid ((hran.grown.block _ (by
                 rcases Nat.lt_or_ge w.heap.size (wr.alloc (.cells #[.int .i64 ((z : Int) % ((C : Int) + 1))] 3)).heap.size with q | q
                 · exact q
                 · have := HOA.out; unfold OB at this; rw [Array.getElem?_eq_none q] at this; cases this) (fun e => by
                 have hM := HMA.out
                 have hO := HOA.out
                 rcases hM.2 with ⟨hv, _⟩ | ⟨g1, _, _, _, hv, _, h1, _⟩
                 · rw [hv] at e; cases e
                 · rw [hv] at e
                   have e2 : w.heap.size = g1 := by injection e
                   subst e2
                   unfold OB at hO
                   rw [h1] at hO
                   injection hO with hO
                   injection hO with _ hO
                   exact absurd hO (by decide))).trans HOA.out)
               obtain ⟨A2, c2, rfl⟩ := hmm.form
               have HM3 := Lib.hid hmm
               clear hmm hran)
            | fail)
          have htt := K.out.1
          refine ⟨⟨t + 1, j + 1, c2, A2, by go_num, rfl, by have := HN.out; omega, by omega, Lib.hid ⟨by omega, by rw [HSN.out, List.map_append]; exact HM3.out, HO3.out, HB3.out⟩⟩, ?_⟩
          simp only [intOf]; omega
        · have htn : ¬ (t : Int) < n := by omega
          have hjm : j = m := by have := HM.out; omega
          have HJ := Lib.hid hjm
          clear hjm ht hn2
          go_wp2
          go_ret2
          refine ⟨w.heap.size, _, rfl, Nat.le_refl _, K.out.2.2.1, ?_, K.out.2.2.2⟩
          have h := K.out.2.1
          rw [HJ.out] at h ⊢
          rw [List.take_of_length_le (by rw [HM.out]; exact Nat.le_refl _)] at h
          exact h
    · skip
      go_wp2
      go_loopw [8, 9] (fun v i wr => ∃ (t j c : Nat) (D : Option Addr), i = .int .i64 t ∧ v = .slice D j c ∧ j ≤ m ∧ t ≤ 302 ∧ Hid (t = j + 2 ∧ Mid wr w.heap.size 3 1 (.slice D j c) j ((picksOf C (ls.take j)).map (Value.int .i64)) ∧ OB wr w.heap.size C ∧ Below w.heap.size w wr)) (fun v i _ => n - (intOf i).toNat)
      case atStart => exact ⟨2, 0, 0, none, rfl, rfl, Nat.zero_le _, by omega, Lib.hid ⟨rfl, Mid.nil _ _ _ _, H.out⟩⟩
      case round =>
        obtain ⟨t, j, c, D, rfl, rfl, hj, ht9, K⟩ := hrel
        have ht := K.out.1
        have hn2 := HN.out
        by_cases hlt : t < n
        · have ht1 : (t : Int) < n := by omega
          obtain ⟨ad, ea, hba, ga⟩ := kget HX.out hlt
          obtain rfl : a0 = ad := Option.some.inj ea
          have gz : wr.cell? (a0.add t) = some (.int .u8 (ls.getD j 0)) := by
            have e2 : (((b0 : Nat) : Int) :: 255 :: ls).getD t 0 = ls.getD j 0 := by rw [ht]; rfl
            rw [e2] at ga
            exact (K.out.2.2.2.cell hba).trans ga
          have hz := HBY.out (ls.getD j 0) (by
            have hjl : j < ls.length := by rw [HM.out]; omega
            rw [List.getD_eq_getElem?_getD, List.getElem?_eq_getElem hjl]; exact List.getElem_mem hjl)
          have hsnoc : picksOf C (ls.take (j + 1)) = picksOf C (ls.take j) ++ [ls.getD j 0 % ((C : Int) + 1)] := by
            have hjl : j < ls.length := by rw [HM.out]; omega
            unfold picksOf
            rw [List.take_succ_eq_append_getElem hjl, List.map_append, List.getD_eq_getElem?_getD, List.getElem?_eq_getElem hjl]; rfl
          have HSN := Lib.hid hsnoc
          clear hsnoc ga ea hba
          generalize ls.getD j 0 = z at *
          obtain ⟨z, rfl⟩ := Int.eq_ofNat_of_zero_le hz.1
          have hz2 : z < 256 := by omega
          have hd0 : ¬ ((C : Int) + 1 = 0) := by omega
          have hd1 : ((C : Int) + 1 == 0) = false := by simp; omega
          clear hz
          have HMA : Hid (Mid (wr.alloc (.cells #[.int .i64 ((z : Int) % ((C : Int) + 1))] 3)) w.heap.size 3 1 (.slice D j c) j ((picksOf C (ls.take j)).map (Value.int .i64))) := Lib.hid (K.out.2.1.same fun g hg => heap_alloc_old _ _ (K.out.2.1.lt g hg).2)
          have HOA : Hid (OB (wr.alloc (.cells #[.int .i64 ((z : Int) % ((C : Int) + 1))] 3)) w.heap.size C) := Lib.hid ((heap_alloc_old _ _ (by
            rcases Nat.lt_or_ge w.heap.size wr.heap.size with q | q
            · exact q
            · have := K.out.2.2.1; unfold OB at this; rw [Array.getElem?_eq_none q] at this; cases this)).trans K.out.2.2.1)
          clear ht hn2
          go_wp2_with (first
            | (refine wpList_append_mid rfl (.tmp 74) (.tmp 83) 47 rfl w.heap.size 3 ii _ 1 8 Tryz.underlying47 ji jz0 jz1 jz2 rfl (by omega) (.slice D j c) j _ rfl HMA.out ⟨_, 0, none⟩ 1 1 [.int .i64 ((z : Int) % ((C : Int) + 1))] rfl rfl (World.news_of_block (cs := #[.int .i64 ((z : Int) % ((C : Int) + 1))]) (t := 3) (fr := (0, 0)) (heap_alloc_new _ _)) (by simp [Value.oneCell']) (by unfold maxLen; omega) (by omega) (by have := K.out.2.2.2.size; simp; omega) ?_
               intro v' w3 hmm hran
               have HB3 : Hid (Below w.heap.size w w3) := Lib.hid (K.out.2.2.2.grown hran.alloc.grown K.out.2.2.2.size (fun g hg => (K.out.2.1.lt g hg).1))
               have HO3 : Hid (OB w3 w.heap.size C) := Lib.hid ((hran.grown.block _ (by
                 rcases Nat.lt_or_ge w.heap.size (wr.alloc (.cells #[.int .i64 ((z : Int) % ((C : Int) + 1))] 3)).heap.size with q | q
                 · exact q
                 · have := HOA.out; unfold OB at this; rw [Array.getElem?_eq_none q] at this; cases this) (fun e => by
                 have hM := HMA.out
                 have hO := HOA.out
                 rcases hM.2 with ⟨hv, _⟩ | ⟨g1, _, _, _, hv, _, h1, _⟩
                 · rw [hv] at e; cases e
                 · rw [hv] at e
                   have e2 : w.heap.size = g1 := by injection e
                   subst e2
                   unfold OB at hO
                   rw [h1] at hO
                   injection hO with hO
                   injection hO with _ hO
                   exact absurd hO (by decide))).trans HOA.out)
               obtain ⟨A2, c2, rfl⟩ := hmm.form
               have HM3 := Lib.hid hmm
               clear hmm hran)
            | fail)
          have htt := K.out.1
          refine ⟨⟨t + 1, j + 1, c2, A2, by go_num, rfl, by have := HN.out; omega, by omega, Lib.hid ⟨by omega, by rw [HSN.out, List.map_append]; exact HM3.out, HO3.out, HB3.out⟩⟩, ?_⟩
          simp only [intOf]; omega
        · have htn : ¬ (t : Int) < n := by omega
          have hjm : j = m := by have := HM.out; omega
          have HJ := Lib.hid hjm
          clear hjm ht hn2
          go_wp2
          go_ret2
          refine ⟨w.heap.size, _, rfl, Nat.le_refl _, K.out.2.2.1, ?_, K.out.2.2.2⟩
          have h := K.out.2.1
          rw [HJ.out] at h ⊢
          rw [List.take_of_length_le (by rw [HM.out]; exact Nat.le_refl _)] at h
          exact h
end Go.Proofs.YtedjimkpmmacoaaGreatDoor
