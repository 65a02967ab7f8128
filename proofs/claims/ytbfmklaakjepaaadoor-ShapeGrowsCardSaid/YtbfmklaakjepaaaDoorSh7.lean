/-
  shape.Put where the term is there, shape.Drop; conditions: lengths.
-/
import Derived.Test.YtbfmklaakjepaaaDoorSh6
namespace Go.Proofs.YtbfmklaakjepaaaDoor
open Go.RowKit Go.WideShapes Go.ChangeShapes
set_option linter.all false
set_option maxRecDepth 100000 in
set_option maxHeartbeats 1600000 in
theorem put_yes_end (ad : Addr) (n c : Nat) (es : List En) (t : ByteArray) (v : Int) (w : World) (hx : Reads w w.heap.size 2 (some ad) n (rowE es)) (hn : n ≤ 2000000) (hnc : n ≤ c) (hth : thereN t es = true) (hkc : c = seekN t es + 1) :
    Calls Tryd.prog 16 #[.slice (some ad) n c, .agg #[.string t, .int .i64 v]] w (LE (putE t v es) (wasN t es) true w) := by
  obtain ⟨i0, hi0, hz0, hz1, hz2⟩ := info_parts infoE
  have LX : Hid (es.length = n) := Lib.hid (ents_len hx)
  have HS := seek_leN t es
  rw [LX.out] at HS
  obtain ⟨k, hk⟩ : ∃ k, k = seekN t es := ⟨_, rfl⟩
  have HK := Lib.hid hk
  rw [← hk] at HS hkc
  have hkn : k < n := by have h := of_decide_eq_true hth; rw [← hk, LX.out] at h; exact h.1
  clear hk
  have HTH := Lib.hid hth
  obtain ⟨wb, hwb⟩ : ∃ wb, w.alloc (.cells #[.string t, .int .i64 v] 23) = wb := ⟨_, rfl⟩
  have HW := Lib.hid hwb
  have HSZ : Hid (wb.heap.size = w.heap.size + 1) := Lib.hid (by rw [← hwb]; simp)
  have HX : Hid (Reads wb wb.heap.size 2 (some ad) n (rowE es)) := Lib.hid (by rw [← hwb]; exact (hx.alloc (Nat.le_refl _) _).more (by simp))
  have BX0 : Hid (wb.cell? ⟨w.heap.size, 0, none⟩ = some (.string t)) := Lib.hid (by rw [← hwb]; exact World.cell?_alloc_at _ _ _ _ rfl)
  have BX1 : Hid (wb.cell? ⟨w.heap.size, 1, none⟩ = some (.int .i64 v)) := Lib.hid (by rw [← hwb]; exact World.cell?_alloc_at _ _ _ _ rfl)
  have HBW : Hid (Below w.heap.size w wb) := Lib.hid (by rw [← hwb]; exact (Below.refl _ _).alloc (Nat.le_refl _) _)
  clear hx hth hwb
  have HRES : Hid (putE t v es = es.take k ++ (t, v) :: es.drop (k + 1)) := Lib.hid (by unfold putE; rw [HTH.out, ← HK.out, if_pos rfl])
  obtain ⟨u, hu⟩ : ∃ u, u = (es.getD k d0).2 := ⟨_, rfl⟩
  have HU : Hid (wasN t es = u) := Lib.hid (by unfold wasN; rw [HTH.out, ← HK.out, if_pos rfl, hu])
  have HCE : Hid (wb.cell? ⟨(ad.add (k * 2)).block, (ad.add (k * 2)).off + 1, none⟩ = some (.int .i64 u)) := Lib.hid (by
    obtain ⟨ad', e', _, _, h1⟩ := ents_get HX.out hkn
    injection e' with e'
    subst e'
    rw [hu]; exact h1)
  have HAD : Hid (ad.block < wb.heap.size) := Lib.hid (by
    obtain ⟨ad', e', hb, _, _⟩ := ents_get HX.out hkn
    injection e' with e'
    subst e'
    exact hb)
  clear hu
  rw [HU.out]
  obtain ⟨j, hj⟩ : ∃ j, j = k + 1 := ⟨_, rfl⟩
  have HJ := Lib.hid hj
  rw [← hj] at hkc
  have hj1 : j ≤ n := by omega
  have hj2 : (j : Int) ≤ (n : Int) := by omega
  have hj3 : (j : Int) ≤ (c : Int) := by omega
  have hj4 : (0 : Int) ≤ (j : Int) := by omega
  have hj5 : (k : Int) ≤ (n : Int) := by omega
  have hj6 : (k : Int) < (n : Int) := by omega
  have hj7 : (0 : Int) ≤ (k : Int) := by omega
  have hkw : IntKind.i64.wrap ((k : Int) + 1) = (j : Int) := by rw [hj]; exact IntWalk.i64_in _ (by omega)
  rw [← hj] at HRES
  clear hj
  obtain rfl : n = c := by omega
  subst hkc
  go_enter Tryd.func16, Tryd.ntmps16
  go_wp2_with (first
    | (go_at_call 22; rw [HW.out]; refine (find_any _ _ _ es t _ HX.out (by omega)).mono ?_; rintro e w1 ⟨rfl, hb1⟩; rw [← HK.out, HTH.out]; have HB1 := Lib.hid hb1; have hz1' := hb1.size; clear hb1; have G1 : Hid True := trivial)
    | (clear G1; refine wpList_make_own _ rfl (.const (.int .i64 0)) (.tmp 19) 25 rfl wb.heap.size 23 i0 _ 2 Tryd.underlying25 hi0 hz0 hz1 .i64 .i64 _ (n + 1) rfl rfl (by simp) (by rw [hz2]; omega) (by unfold maxLen; omega) hz1' ?_
       intro w2 hown hg1
       have HB2 : Hid (Below wb.heap.size wb w2) := Lib.hid (HB1.out.grown hg1 hz1' (fun g hg => by cases hg))
       have HM2 := Lib.hid (Mid.of_own hown)
       clear hown hg1
       have G2 : Hid True := trivial)
    | (clear G2; refine wpList_append_src rfl (.tmp 21) (.tmp 24) 25 rfl wb.heap.size 23 i0 _ 2 24 Tryd.underlying25 hi0 hz0 hz1 hz2 rfl (by omega) _ 0 [] rfl HM2.out wb.heap.size (some ad) k _ (rowE (es.take k)) rfl (reads_front (HX.out.below HB2.out) HS) (one_cells _) (by unfold maxLen; omega) (by omega) HB2.out.size ?_
       intro v3 w3 hm3 hr3
       have HB3 : Hid (Below wb.heap.size wb w3) := Lib.hid (HB2.out.grown hr3.grown HB2.out.size (fun g hg => (HM2.out.lt g hg).1))
       rw [Nat.zero_add, List.nil_append] at hm3
       obtain ⟨A3, c3, rfl⟩ := hm3.form
       have HM3 := Lib.hid hm3
       have q0 : w3.cell? ⟨w.heap.size, 0, none⟩ = some (.string t) := (HB3.out.cell (p := ⟨w.heap.size, 0, none⟩) (by rw [HSZ.out]; exact Nat.lt_succ_self _)).trans BX0.out
       have q1 : w3.cell? ⟨w.heap.size, 1, none⟩ = some (.int .i64 v) := (HB3.out.cell (p := ⟨w.heap.size, 1, none⟩) (by rw [HSZ.out]; exact Nat.lt_succ_self _)).trans BX1.out
       clear hm3 hr3
       have G3 : Hid True := trivial)
    | (clear G3; refine wpList_append_src rfl (.tmp 26) (.tmp 28) 25 rfl wb.heap.size 23 i0 _ 2 24 Tryd.underlying25 hi0 hz0 hz1 hz2 rfl (by omega) _ _ _ rfl (HM3.out.same fun g hg => Below.heap_alloc _ _ g (HM3.out.lt g hg).2) _ _ 1 1 (rowE [(t, v)]) rfl (reads_new w3 t v) (one_cells _) (by unfold maxLen; omega) (by omega) (by have := HB3.out.size; simp; omega) ?_
       intro v4 w4 hm4 hr4
       have HB4 : Hid (Below wb.heap.size wb w4) := Lib.hid ((HB3.out.alloc HB3.out.size _).grown hr4.grown (by have := HB3.out.size; simp; omega) (fun g hg => (HM3.out.lt g hg).1))
       obtain ⟨A4, c4, rfl⟩ := hm4.form
       have HM4 := Lib.hid hm4
       clear hm4 hr4 q0 q1
       have G4 : Hid True := trivial)
    | fail)
  have hce : w4.cell? ⟨(ad.add (k * 2)).block, (ad.add (k * 2)).off + 1, none⟩ = some (.int .i64 u) := (HB4.out.cell (p := ⟨(ad.add (k * 2)).block, (ad.add (k * 2)).off + 1, none⟩) (by show (ad.add (k * 2)).block < _; rw [block_of_add]; exact HAD.out)).trans HCE.out
  have hce0 : w4.drew.cell? ⟨(ad.add (k * 2)).block, (ad.add (k * 2)).off + 1, none⟩ = some (.int .i64 u) := hce
  go_region_held3 (fun w' => w'.cell? ⟨(ad.add (k * 2)).block, (ad.add (k * 2)).off + 1, none⟩ = some (.int .i64 u)) (first | (go_keep; done) | exact hce5 | exact hce0)
    (first
      | (refine step_append_src (by rfl) _ _ _ (by rfl) wb.heap.size 23 i0 _ 2 24 Tryd.underlying25 hi0 hz0 hz1 hz2 rfl (by omega) (.slice A4 (k + 1) c4) (k + 1) _ (by rfl) HM4.out wb.heap.size (some ad) (0) (0) (rowE (es.drop n)) (by rfl) (by have h := reads_tail (HX.out.below HB4.out) (Nat.le_refl _) (Nat.le_refl _); rw [if_pos rfl, Nat.sub_self] at h; exact h) (one_cells _) (by unfold maxLen; omega) (by omega) HB4.out.size ?_
         intro v5 w5 hm5 hr5
         have HB5 : Hid (Below wb.heap.size wb w5) := Lib.hid (HB4.out.drew.grown hr5.grown HB4.out.size (fun g hg => (HM4.out.lt g hg).1))
         obtain ⟨A5, c5, rfl⟩ := hm5.form
         have HM5 := Lib.hid hm5
         have hce5 : w5.cell? ⟨(ad.add (k * 2)).block, (ad.add (k * 2)).off + 1, none⟩ = some (.int .i64 u) := (HB5.out.cell (p := ⟨(ad.add (k * 2)).block, (ad.add (k * 2)).off + 1, none⟩) (by show (ad.add (k * 2)).block < _; rw [block_of_add]; exact HAD.out)).trans HCE.out
         clear hm5 hr5))
  go_wp2
  have HBF : Hid (Below w.heap.size w w5) := Lib.hid (HBW.out.trans (HB5.out.mono HBW.out.size))
  go_ret3
  exact of_mid HM5.out (by rw [HRES.out]; simp [rowE_app, rowE]) HBF.out
set_option maxRecDepth 100000 in
set_option maxHeartbeats 1600000 in
theorem put_yes_mid (ad : Addr) (n c : Nat) (es : List En) (t : ByteArray) (v : Int) (w : World) (hx : Reads w w.heap.size 2 (some ad) n (rowE es)) (hn : n ≤ 2000000) (hnc : n ≤ c) (hth : thereN t es = true) (hkc : ¬ c = seekN t es + 1) :
    Calls Tryd.prog 16 #[.slice (some ad) n c, .agg #[.string t, .int .i64 v]] w (LE (putE t v es) (wasN t es) true w) := by
  obtain ⟨i0, hi0, hz0, hz1, hz2⟩ := info_parts infoE
  have LX : Hid (es.length = n) := Lib.hid (ents_len hx)
  have HS := seek_leN t es
  rw [LX.out] at HS
  obtain ⟨k, hk⟩ : ∃ k, k = seekN t es := ⟨_, rfl⟩
  have HK := Lib.hid hk
  rw [← hk] at HS hkc
  have hkn : k < n := by have h := of_decide_eq_true hth; rw [← hk, LX.out] at h; exact h.1
  clear hk
  have HTH := Lib.hid hth
  obtain ⟨wb, hwb⟩ : ∃ wb, w.alloc (.cells #[.string t, .int .i64 v] 23) = wb := ⟨_, rfl⟩
  have HW := Lib.hid hwb
  have HSZ : Hid (wb.heap.size = w.heap.size + 1) := Lib.hid (by rw [← hwb]; simp)
  have HX : Hid (Reads wb wb.heap.size 2 (some ad) n (rowE es)) := Lib.hid (by rw [← hwb]; exact (hx.alloc (Nat.le_refl _) _).more (by simp))
  have BX0 : Hid (wb.cell? ⟨w.heap.size, 0, none⟩ = some (.string t)) := Lib.hid (by rw [← hwb]; exact World.cell?_alloc_at _ _ _ _ rfl)
  have BX1 : Hid (wb.cell? ⟨w.heap.size, 1, none⟩ = some (.int .i64 v)) := Lib.hid (by rw [← hwb]; exact World.cell?_alloc_at _ _ _ _ rfl)
  have HBW : Hid (Below w.heap.size w wb) := Lib.hid (by rw [← hwb]; exact (Below.refl _ _).alloc (Nat.le_refl _) _)
  clear hx hth hwb
  have HRES : Hid (putE t v es = es.take k ++ (t, v) :: es.drop (k + 1)) := Lib.hid (by unfold putE; rw [HTH.out, ← HK.out, if_pos rfl])
  obtain ⟨u, hu⟩ : ∃ u, u = (es.getD k d0).2 := ⟨_, rfl⟩
  have HU : Hid (wasN t es = u) := Lib.hid (by unfold wasN; rw [HTH.out, ← HK.out, if_pos rfl, hu])
  have HCE : Hid (wb.cell? ⟨(ad.add (k * 2)).block, (ad.add (k * 2)).off + 1, none⟩ = some (.int .i64 u)) := Lib.hid (by
    obtain ⟨ad', e', _, _, h1⟩ := ents_get HX.out hkn
    injection e' with e'
    subst e'
    rw [hu]; exact h1)
  have HAD : Hid (ad.block < wb.heap.size) := Lib.hid (by
    obtain ⟨ad', e', hb, _, _⟩ := ents_get HX.out hkn
    injection e' with e'
    subst e'
    exact hb)
  clear hu
  rw [HU.out]
  obtain ⟨j, hj⟩ : ∃ j, j = k + 1 := ⟨_, rfl⟩
  have HJ := Lib.hid hj
  rw [← hj] at hkc
  have hj1 : j ≤ n := by omega
  have hj2 : (j : Int) ≤ (n : Int) := by omega
  have hj3 : (j : Int) ≤ (c : Int) := by omega
  have hj4 : (0 : Int) ≤ (j : Int) := by omega
  have hj5 : (k : Int) ≤ (n : Int) := by omega
  have hj6 : (k : Int) < (n : Int) := by omega
  have hj7 : (0 : Int) ≤ (k : Int) := by omega
  have hkw : IntKind.i64.wrap ((k : Int) + 1) = (j : Int) := by rw [hj]; exact IntWalk.i64_in _ (by omega)
  rw [← hj] at HRES
  clear hj
  go_enter Tryd.func16, Tryd.ntmps16
  go_wp2_with (first
    | (go_at_call 22; rw [HW.out]; refine (find_any _ _ _ es t _ HX.out (by omega)).mono ?_; rintro e w1 ⟨rfl, hb1⟩; rw [← HK.out, HTH.out]; have HB1 := Lib.hid hb1; have hz1' := hb1.size; clear hb1; have G1 : Hid True := trivial)
    | (clear G1; refine wpList_make_own _ rfl (.const (.int .i64 0)) (.tmp 19) 25 rfl wb.heap.size 23 i0 _ 2 Tryd.underlying25 hi0 hz0 hz1 .i64 .i64 _ (n + 1) rfl rfl (by simp) (by rw [hz2]; omega) (by unfold maxLen; omega) hz1' ?_
       intro w2 hown hg1
       have HB2 : Hid (Below wb.heap.size wb w2) := Lib.hid (HB1.out.grown hg1 hz1' (fun g hg => by cases hg))
       have HM2 := Lib.hid (Mid.of_own hown)
       clear hown hg1
       have G2 : Hid True := trivial)
    | (clear G2; refine wpList_append_src rfl (.tmp 21) (.tmp 24) 25 rfl wb.heap.size 23 i0 _ 2 24 Tryd.underlying25 hi0 hz0 hz1 hz2 rfl (by omega) _ 0 [] rfl HM2.out wb.heap.size (some ad) k _ (rowE (es.take k)) rfl (reads_front (HX.out.below HB2.out) HS) (one_cells _) (by unfold maxLen; omega) (by omega) HB2.out.size ?_
       intro v3 w3 hm3 hr3
       have HB3 : Hid (Below wb.heap.size wb w3) := Lib.hid (HB2.out.grown hr3.grown HB2.out.size (fun g hg => (HM2.out.lt g hg).1))
       rw [Nat.zero_add, List.nil_append] at hm3
       obtain ⟨A3, c3, rfl⟩ := hm3.form
       have HM3 := Lib.hid hm3
       have q0 : w3.cell? ⟨w.heap.size, 0, none⟩ = some (.string t) := (HB3.out.cell (p := ⟨w.heap.size, 0, none⟩) (by rw [HSZ.out]; exact Nat.lt_succ_self _)).trans BX0.out
       have q1 : w3.cell? ⟨w.heap.size, 1, none⟩ = some (.int .i64 v) := (HB3.out.cell (p := ⟨w.heap.size, 1, none⟩) (by rw [HSZ.out]; exact Nat.lt_succ_self _)).trans BX1.out
       clear hm3 hr3
       have G3 : Hid True := trivial)
    | (clear G3; refine wpList_append_src rfl (.tmp 26) (.tmp 28) 25 rfl wb.heap.size 23 i0 _ 2 24 Tryd.underlying25 hi0 hz0 hz1 hz2 rfl (by omega) _ _ _ rfl (HM3.out.same fun g hg => Below.heap_alloc _ _ g (HM3.out.lt g hg).2) _ _ 1 1 (rowE [(t, v)]) rfl (reads_new w3 t v) (one_cells _) (by unfold maxLen; omega) (by omega) (by have := HB3.out.size; simp; omega) ?_
       intro v4 w4 hm4 hr4
       have HB4 : Hid (Below wb.heap.size wb w4) := Lib.hid ((HB3.out.alloc HB3.out.size _).grown hr4.grown (by have := HB3.out.size; simp; omega) (fun g hg => (HM3.out.lt g hg).1))
       obtain ⟨A4, c4, rfl⟩ := hm4.form
       have HM4 := Lib.hid hm4
       clear hm4 hr4 q0 q1
       have G4 : Hid True := trivial)
    | fail)
  have hce : w4.cell? ⟨(ad.add (k * 2)).block, (ad.add (k * 2)).off + 1, none⟩ = some (.int .i64 u) := (HB4.out.cell (p := ⟨(ad.add (k * 2)).block, (ad.add (k * 2)).off + 1, none⟩) (by show (ad.add (k * 2)).block < _; rw [block_of_add]; exact HAD.out)).trans HCE.out
  have hce0 : w4.drew.cell? ⟨(ad.add (k * 2)).block, (ad.add (k * 2)).off + 1, none⟩ = some (.int .i64 u) := hce
  go_region_held3 (fun w' => w'.cell? ⟨(ad.add (k * 2)).block, (ad.add (k * 2)).off + 1, none⟩ = some (.int .i64 u)) (first | (go_keep; done) | exact hce5 | exact hce0)
    (first
      | (refine step_append_src (by rfl) _ _ _ (by rfl) wb.heap.size 23 i0 _ 2 24 Tryd.underlying25 hi0 hz0 hz1 hz2 rfl (by omega) (.slice A4 (k + 1) c4) (k + 1) _ (by rfl) HM4.out wb.heap.size (some (ad.add (j * 2))) (n - j) (c - j) (rowE (es.drop j)) (by rfl) (by have h := reads_tail (HX.out.below HB4.out) hj1 hnc; rw [if_neg hkc] at h; exact h) (one_cells _) (by unfold maxLen; omega) (by omega) HB4.out.size ?_
         intro v5 w5 hm5 hr5
         have HB5 : Hid (Below wb.heap.size wb w5) := Lib.hid (HB4.out.drew.grown hr5.grown HB4.out.size (fun g hg => (HM4.out.lt g hg).1))
         obtain ⟨A5, c5, rfl⟩ := hm5.form
         have HM5 := Lib.hid hm5
         have hce5 : w5.cell? ⟨(ad.add (k * 2)).block, (ad.add (k * 2)).off + 1, none⟩ = some (.int .i64 u) := (HB5.out.cell (p := ⟨(ad.add (k * 2)).block, (ad.add (k * 2)).off + 1, none⟩) (by show (ad.add (k * 2)).block < _; rw [block_of_add]; exact HAD.out)).trans HCE.out
         clear hm5 hr5))
  go_wp2
  have HBF : Hid (Below w.heap.size w w5) := Lib.hid (HBW.out.trans (HB5.out.mono HBW.out.size))
  go_ret3
  exact of_mid HM5.out (by rw [HRES.out]; simp [rowE_app, rowE]) HBF.out
set_option maxRecDepth 100000 in
set_option maxHeartbeats 1600000 in
theorem drop_no_end (A : Option Addr) (n : Nat) (es : List En) (t : ByteArray) (w : World) (hx : Reads w w.heap.size 2 A n (rowE es)) (hn : n ≤ 2000000) (hth : thereN t es = false) (hkc : seekN t es = n) :
    Calls Tryd.prog 10 #[.slice A n n, .string t] w (LE (dropE t es) 0 false w) := by
  obtain ⟨i0, hi0, hz0, hz1, hz2⟩ := info_parts infoE
  have LX : Hid (es.length = n) := Lib.hid (ents_len hx)
  have HS := seek_leN t es
  rw [LX.out] at HS
  obtain ⟨k, hk⟩ : ∃ k, k = seekN t es := ⟨_, rfl⟩
  have HK := Lib.hid hk
  rw [← hk] at HS
  have hkn : k = n := by rw [hk]; exact hkc
  clear hk hkc
  subst hkn
  have HTH := Lib.hid hth
  have HX : Hid (Reads w w.heap.size 2 A k (rowE es)) := Lib.hid hx
  clear hx hth
  have HRES : Hid (dropE t es = es.take k ++ es.drop k) := Lib.hid (by unfold dropE; rw [HTH.out, ← HK.out, if_neg (by decide)])
  have hk0 : k - k = 0 := by omega
  go_enter Tryd.func10, Tryd.ntmps10
  go_wp2_with (first
    | (go_at_call 22; refine (find_any _ _ _ es t _ HX.out (by omega)).mono ?_; rintro e w1 ⟨rfl, hb1⟩; rw [← HK.out, HTH.out]; have HB1 := Lib.hid hb1; have hz1' := hb1.size; clear hb1; have G1 : Hid True := trivial)
    | (clear G1; refine wpList_make_own _ rfl (.const (.int .i64 0)) (.tmp 17) 25 rfl w.heap.size 23 i0 _ 2 Tryd.underlying25 hi0 hz0 hz1 .i64 .i64 _ k rfl rfl (by simp) (by rw [hz2]; omega) (by unfold maxLen; omega) hz1' ?_
       intro w2 hown hg1
       have HB2 : Hid (Below w.heap.size w w2) := Lib.hid (HB1.out.grown hg1 hz1' (fun g hg => by cases hg))
       have HM2 := Lib.hid (Mid.of_own hown)
       clear hown hg1
       have G2 : Hid True := trivial)
    | (clear G2; refine wpList_append_src rfl (.tmp 19) (.tmp 22) 25 rfl w.heap.size 23 i0 _ 2 24 Tryd.underlying25 hi0 hz0 hz1 hz2 rfl (by omega) _ 0 [] rfl HM2.out w.heap.size A k k (rowE (es.take k)) rfl (reads_front (HX.out.below HB2.out) HS) (one_cells _) (by unfold maxLen; omega) (by omega) HB2.out.size ?_
       intro v4 w4 hm4 hr4
       have HB4 : Hid (Below w.heap.size w w4) := Lib.hid (HB2.out.grown hr4.grown HB2.out.size (fun g hg => (HM2.out.lt g hg).1))
       rw [Nat.zero_add, List.nil_append] at hm4
       obtain ⟨A4, c4, rfl⟩ := hm4.form
       have HM4 := Lib.hid hm4
       clear hm4 hr4
       have G4 : Hid True := trivial)
    | (clear G4; refine wpList_append_src rfl (.tmp 26) (.tmp 29) 25 rfl w.heap.size 23 i0 _ 2 24 Tryd.underlying25 hi0 hz0 hz1 hz2 rfl (by omega) _ _ _ rfl HM4.out w.heap.size A (0) (0) (rowE (es.drop k)) rfl (by have h := reads_tail (HX.out.below HB4.out) (Nat.le_refl _) (Nat.le_refl _); rw [if_pos rfl, hk0] at h; exact h) (one_cells _) (by unfold maxLen; omega) (by omega) HB4.out.size ?_
       intro v5 w5 hm5 hr5
       have HB5 : Hid (Below w.heap.size w w5) := Lib.hid (HB4.out.grown hr5.grown HB4.out.size (fun g hg => (HM4.out.lt g hg).1))
       obtain ⟨A5, c5, rfl⟩ := hm5.form
       have HM5 := Lib.hid hm5
       clear hm5 hr5)
    | fail)
  have HBF : Hid (Below w.heap.size w w5) := Lib.hid HB5.out
  go_ret3
  exact of_mid HM5.out (by rw [HRES.out, rowE_app]) HBF.out
set_option maxRecDepth 100000 in
set_option maxHeartbeats 1600000 in
theorem drop_no_mid (ad : Addr) (n c : Nat) (es : List En) (t : ByteArray) (w : World) (hx : Reads w w.heap.size 2 (some ad) n (rowE es)) (hn : n ≤ 2000000) (hnc : n ≤ c) (hth : thereN t es = false) (hkc : ¬ c = seekN t es) :
    Calls Tryd.prog 10 #[.slice (some ad) n c, .string t] w (LE (dropE t es) 0 false w) := by
  obtain ⟨i0, hi0, hz0, hz1, hz2⟩ := info_parts infoE
  have LX : Hid (es.length = n) := Lib.hid (ents_len hx)
  have HS := seek_leN t es
  rw [LX.out] at HS
  obtain ⟨k, hk⟩ : ∃ k, k = seekN t es := ⟨_, rfl⟩
  have HK := Lib.hid hk
  rw [← hk] at HS hkc
  clear hk
  have HTH := Lib.hid hth
  have HX : Hid (Reads w w.heap.size 2 (some ad) n (rowE es)) := Lib.hid hx
  clear hx hth
  have HRES : Hid (dropE t es = es.take k ++ es.drop k) := Lib.hid (by unfold dropE; rw [HTH.out, ← HK.out, if_neg (by decide)])
  go_enter Tryd.func10, Tryd.ntmps10
  go_wp2_with (first
    | (go_at_call 22; refine (find_any _ _ _ es t _ HX.out (by omega)).mono ?_; rintro e w1 ⟨rfl, hb1⟩; rw [← HK.out, HTH.out]; have HB1 := Lib.hid hb1; have hz1' := hb1.size; clear hb1; have G1 : Hid True := trivial)
    | (clear G1; refine wpList_make_own _ rfl (.const (.int .i64 0)) (.tmp 17) 25 rfl w.heap.size 23 i0 _ 2 Tryd.underlying25 hi0 hz0 hz1 .i64 .i64 _ n rfl rfl (by simp) (by rw [hz2]; omega) (by unfold maxLen; omega) hz1' ?_
       intro w2 hown hg1
       have HB2 : Hid (Below w.heap.size w w2) := Lib.hid (HB1.out.grown hg1 hz1' (fun g hg => by cases hg))
       have HM2 := Lib.hid (Mid.of_own hown)
       clear hown hg1
       have G2 : Hid True := trivial)
    | (clear G2; refine wpList_append_src rfl (.tmp 19) (.tmp 22) 25 rfl w.heap.size 23 i0 _ 2 24 Tryd.underlying25 hi0 hz0 hz1 hz2 rfl (by omega) _ 0 [] rfl HM2.out w.heap.size (some ad) k c (rowE (es.take k)) rfl (reads_front (HX.out.below HB2.out) HS) (one_cells _) (by unfold maxLen; omega) (by omega) HB2.out.size ?_
       intro v4 w4 hm4 hr4
       have HB4 : Hid (Below w.heap.size w w4) := Lib.hid (HB2.out.grown hr4.grown HB2.out.size (fun g hg => (HM2.out.lt g hg).1))
       rw [Nat.zero_add, List.nil_append] at hm4
       obtain ⟨A4, c4, rfl⟩ := hm4.form
       have HM4 := Lib.hid hm4
       clear hm4 hr4
       have G4 : Hid True := trivial)
    | (clear G4; refine wpList_append_src rfl (.tmp 26) (.tmp 29) 25 rfl w.heap.size 23 i0 _ 2 24 Tryd.underlying25 hi0 hz0 hz1 hz2 rfl (by omega) _ _ _ rfl HM4.out w.heap.size (some (ad.add (k * 2))) (n - k) (c - k) (rowE (es.drop k)) rfl (by have h := reads_tail (HX.out.below HB4.out) HS hnc; rw [if_neg hkc] at h; exact h) (one_cells _) (by unfold maxLen; omega) (by omega) HB4.out.size ?_
       intro v5 w5 hm5 hr5
       have HB5 : Hid (Below w.heap.size w w5) := Lib.hid (HB4.out.grown hr5.grown HB4.out.size (fun g hg => (HM4.out.lt g hg).1))
       rw [show k + (n - k) = n from by omega] at hm5
       obtain ⟨A5, c5, rfl⟩ := hm5.form
       have HM5 := Lib.hid hm5
       clear hm5 hr5)
    | fail)
  have HBF : Hid (Below w.heap.size w w5) := Lib.hid HB5.out
  go_ret3
  exact of_mid HM5.out (by rw [HRES.out, rowE_app]) HBF.out
set_option maxRecDepth 100000 in
set_option maxHeartbeats 1600000 in
theorem drop_yes_end (ad : Addr) (n c : Nat) (es : List En) (t : ByteArray) (w : World) (hx : Reads w w.heap.size 2 (some ad) n (rowE es)) (hn : n ≤ 2000000) (hnc : n ≤ c) (hth : thereN t es = true) (hkc : c = seekN t es + 1) :
    Calls Tryd.prog 10 #[.slice (some ad) n c, .string t] w (LE (dropE t es) (wasN t es) true w) := by
  obtain ⟨i0, hi0, hz0, hz1, hz2⟩ := info_parts infoE
  have LX : Hid (es.length = n) := Lib.hid (ents_len hx)
  have HS := seek_leN t es
  rw [LX.out] at HS
  obtain ⟨k, hk⟩ : ∃ k, k = seekN t es := ⟨_, rfl⟩
  have HK := Lib.hid hk
  rw [← hk] at HS hkc
  have hkn : k < n := by have h := of_decide_eq_true hth; rw [← hk, LX.out] at h; exact h.1
  clear hk
  have HTH := Lib.hid hth
  have HX : Hid (Reads w w.heap.size 2 (some ad) n (rowE es)) := Lib.hid hx
  clear hx hth
  have HRES : Hid (dropE t es = es.take k ++ es.drop (k + 1)) := Lib.hid (by unfold dropE; rw [HTH.out, ← HK.out, if_pos rfl])
  obtain ⟨u, hu⟩ : ∃ u, u = (es.getD k d0).2 := ⟨_, rfl⟩
  have HU : Hid (wasN t es = u) := Lib.hid (by unfold wasN; rw [HTH.out, ← HK.out, if_pos rfl, hu])
  have HCE : Hid (w.cell? ⟨(ad.add (k * 2)).block, (ad.add (k * 2)).off + 1, none⟩ = some (.int .i64 u)) := Lib.hid (by
    obtain ⟨ad', e', _, _, h1⟩ := ents_get HX.out hkn
    injection e' with e'
    subst e'
    rw [hu]; exact h1)
  have HAD : Hid (ad.block < w.heap.size) := Lib.hid (by
    obtain ⟨ad', e', hb, _, _⟩ := ents_get HX.out hkn
    injection e' with e'
    subst e'
    exact hb)
  clear hu
  rw [HU.out]
  obtain ⟨j, hj⟩ : ∃ j, j = k + 1 := ⟨_, rfl⟩
  have HJ := Lib.hid hj
  rw [← hj] at hkc
  have hj1 : j ≤ n := by omega
  have hj2 : (j : Int) ≤ (n : Int) := by omega
  have hj3 : (j : Int) ≤ (c : Int) := by omega
  have hj4 : (0 : Int) ≤ (j : Int) := by omega
  have hj5 : (k : Int) ≤ (n : Int) := by omega
  have hj6 : (k : Int) < (n : Int) := by omega
  have hj7 : (0 : Int) ≤ (k : Int) := by omega
  have hkw : IntKind.i64.wrap ((k : Int) + 1) = (j : Int) := by rw [hj]; exact IntWalk.i64_in _ (by omega)
  rw [← hj] at HRES
  clear hj
  obtain rfl : n = c := by omega
  subst hkc
  go_enter Tryd.func10, Tryd.ntmps10
  go_wp2_with (first
    | (go_at_call 22; refine (find_any _ _ _ es t _ HX.out (by omega)).mono ?_; rintro e w1 ⟨rfl, hb1⟩; rw [← HK.out, HTH.out]; have HB1 := Lib.hid hb1; have hz1' := hb1.size; clear hb1; have G1 : Hid True := trivial)
    | (clear G1; refine wpList_make_own _ rfl (.const (.int .i64 0)) (.tmp 17) 25 rfl w.heap.size 23 i0 _ 2 Tryd.underlying25 hi0 hz0 hz1 .i64 .i64 _ n rfl rfl (by simp) (by rw [hz2]; omega) (by unfold maxLen; omega) hz1' ?_
       intro w2 hown hg1
       have HB2 : Hid (Below w.heap.size w w2) := Lib.hid (HB1.out.grown hg1 hz1' (fun g hg => by cases hg))
       have HM2 := Lib.hid (Mid.of_own hown)
       clear hown hg1
       have G2 : Hid True := trivial)
    | (clear G2; refine wpList_append_src rfl (.tmp 19) (.tmp 22) 25 rfl w.heap.size 23 i0 _ 2 24 Tryd.underlying25 hi0 hz0 hz1 hz2 rfl (by omega) _ 0 [] rfl HM2.out w.heap.size (some ad) k _ (rowE (es.take k)) rfl (reads_front (HX.out.below HB2.out) HS) (one_cells _) (by unfold maxLen; omega) (by omega) HB2.out.size ?_
       intro v4 w4 hm4 hr4
       have HB4 : Hid (Below w.heap.size w w4) := Lib.hid (HB2.out.grown hr4.grown HB2.out.size (fun g hg => (HM2.out.lt g hg).1))
       rw [Nat.zero_add, List.nil_append] at hm4
       obtain ⟨A4, c4, rfl⟩ := hm4.form
       have HM4 := Lib.hid hm4
       clear hm4 hr4
       have G4 : Hid True := trivial)
    | fail)
  have hce : w4.cell? ⟨(ad.add (k * 2)).block, (ad.add (k * 2)).off + 1, none⟩ = some (.int .i64 u) := (HB4.out.cell (p := ⟨(ad.add (k * 2)).block, (ad.add (k * 2)).off + 1, none⟩) (by show (ad.add (k * 2)).block < _; rw [block_of_add]; exact HAD.out)).trans HCE.out
  have hce0 : w4.drew.cell? ⟨(ad.add (k * 2)).block, (ad.add (k * 2)).off + 1, none⟩ = some (.int .i64 u) := hce
  go_region_held3 (fun w' => w'.cell? ⟨(ad.add (k * 2)).block, (ad.add (k * 2)).off + 1, none⟩ = some (.int .i64 u)) (first | (go_keep; done) | exact hce5 | exact hce0)
    (first
      | (refine step_append_src (by rfl) _ _ _ (by rfl) w.heap.size 23 i0 _ 2 24 Tryd.underlying25 hi0 hz0 hz1 hz2 rfl (by omega) (.slice A4 k c4) k _ (by rfl) HM4.out w.heap.size (some ad) (0) (0) (rowE (es.drop n)) (by rfl) (by have h := reads_tail (HX.out.below HB4.out) (Nat.le_refl _) (Nat.le_refl _); rw [if_pos rfl, Nat.sub_self] at h; exact h) (one_cells _) (by unfold maxLen; omega) (by omega) HB4.out.size ?_
         intro v5 w5 hm5 hr5
         have HB5 : Hid (Below w.heap.size w w5) := Lib.hid (HB4.out.drew.grown hr5.grown HB4.out.size (fun g hg => (HM4.out.lt g hg).1))
         obtain ⟨A5, c5, rfl⟩ := hm5.form
         have HM5 := Lib.hid hm5
         have hce5 : w5.cell? ⟨(ad.add (k * 2)).block, (ad.add (k * 2)).off + 1, none⟩ = some (.int .i64 u) := (HB5.out.cell (p := ⟨(ad.add (k * 2)).block, (ad.add (k * 2)).off + 1, none⟩) (by show (ad.add (k * 2)).block < _; rw [block_of_add]; exact HAD.out)).trans HCE.out
         clear hm5 hr5))
  go_wp2
  have HBF : Hid (Below w.heap.size w w5) := Lib.hid HB5.out
  go_ret3
  exact of_mid HM5.out (by rw [HRES.out, rowE_app]) HBF.out
set_option maxRecDepth 100000 in
set_option maxHeartbeats 1600000 in
theorem drop_yes_mid (ad : Addr) (n c : Nat) (es : List En) (t : ByteArray) (w : World) (hx : Reads w w.heap.size 2 (some ad) n (rowE es)) (hn : n ≤ 2000000) (hnc : n ≤ c) (hth : thereN t es = true) (hkc : ¬ c = seekN t es + 1) :
    Calls Tryd.prog 10 #[.slice (some ad) n c, .string t] w (LE (dropE t es) (wasN t es) true w) := by
  obtain ⟨i0, hi0, hz0, hz1, hz2⟩ := info_parts infoE
  have LX : Hid (es.length = n) := Lib.hid (ents_len hx)
  have HS := seek_leN t es
  rw [LX.out] at HS
  obtain ⟨k, hk⟩ : ∃ k, k = seekN t es := ⟨_, rfl⟩
  have HK := Lib.hid hk
  rw [← hk] at HS hkc
  have hkn : k < n := by have h := of_decide_eq_true hth; rw [← hk, LX.out] at h; exact h.1
  clear hk
  have HTH := Lib.hid hth
  have HX : Hid (Reads w w.heap.size 2 (some ad) n (rowE es)) := Lib.hid hx
  clear hx hth
  have HRES : Hid (dropE t es = es.take k ++ es.drop (k + 1)) := Lib.hid (by unfold dropE; rw [HTH.out, ← HK.out, if_pos rfl])
  obtain ⟨u, hu⟩ : ∃ u, u = (es.getD k d0).2 := ⟨_, rfl⟩
  have HU : Hid (wasN t es = u) := Lib.hid (by unfold wasN; rw [HTH.out, ← HK.out, if_pos rfl, hu])
  have HCE : Hid (w.cell? ⟨(ad.add (k * 2)).block, (ad.add (k * 2)).off + 1, none⟩ = some (.int .i64 u)) := Lib.hid (by
    obtain ⟨ad', e', _, _, h1⟩ := ents_get HX.out hkn
    injection e' with e'
    subst e'
    rw [hu]; exact h1)
  have HAD : Hid (ad.block < w.heap.size) := Lib.hid (by
    obtain ⟨ad', e', hb, _, _⟩ := ents_get HX.out hkn
    injection e' with e'
    subst e'
    exact hb)
  clear hu
  rw [HU.out]
  obtain ⟨j, hj⟩ : ∃ j, j = k + 1 := ⟨_, rfl⟩
  have HJ := Lib.hid hj
  rw [← hj] at hkc
  have hj1 : j ≤ n := by omega
  have hj2 : (j : Int) ≤ (n : Int) := by omega
  have hj3 : (j : Int) ≤ (c : Int) := by omega
  have hj4 : (0 : Int) ≤ (j : Int) := by omega
  have hj5 : (k : Int) ≤ (n : Int) := by omega
  have hj6 : (k : Int) < (n : Int) := by omega
  have hj7 : (0 : Int) ≤ (k : Int) := by omega
  have hkw : IntKind.i64.wrap ((k : Int) + 1) = (j : Int) := by rw [hj]; exact IntWalk.i64_in _ (by omega)
  rw [← hj] at HRES
  clear hj
  go_enter Tryd.func10, Tryd.ntmps10
  go_wp2_with (first
    | (go_at_call 22; refine (find_any _ _ _ es t _ HX.out (by omega)).mono ?_; rintro e w1 ⟨rfl, hb1⟩; rw [← HK.out, HTH.out]; have HB1 := Lib.hid hb1; have hz1' := hb1.size; clear hb1; have G1 : Hid True := trivial)
    | (clear G1; refine wpList_make_own _ rfl (.const (.int .i64 0)) (.tmp 17) 25 rfl w.heap.size 23 i0 _ 2 Tryd.underlying25 hi0 hz0 hz1 .i64 .i64 _ n rfl rfl (by simp) (by rw [hz2]; omega) (by unfold maxLen; omega) hz1' ?_
       intro w2 hown hg1
       have HB2 : Hid (Below w.heap.size w w2) := Lib.hid (HB1.out.grown hg1 hz1' (fun g hg => by cases hg))
       have HM2 := Lib.hid (Mid.of_own hown)
       clear hown hg1
       have G2 : Hid True := trivial)
    | (clear G2; refine wpList_append_src rfl (.tmp 19) (.tmp 22) 25 rfl w.heap.size 23 i0 _ 2 24 Tryd.underlying25 hi0 hz0 hz1 hz2 rfl (by omega) _ 0 [] rfl HM2.out w.heap.size (some ad) k _ (rowE (es.take k)) rfl (reads_front (HX.out.below HB2.out) HS) (one_cells _) (by unfold maxLen; omega) (by omega) HB2.out.size ?_
       intro v4 w4 hm4 hr4
       have HB4 : Hid (Below w.heap.size w w4) := Lib.hid (HB2.out.grown hr4.grown HB2.out.size (fun g hg => (HM2.out.lt g hg).1))
       rw [Nat.zero_add, List.nil_append] at hm4
       obtain ⟨A4, c4, rfl⟩ := hm4.form
       have HM4 := Lib.hid hm4
       clear hm4 hr4
       have G4 : Hid True := trivial)
    | fail)
  have hce : w4.cell? ⟨(ad.add (k * 2)).block, (ad.add (k * 2)).off + 1, none⟩ = some (.int .i64 u) := (HB4.out.cell (p := ⟨(ad.add (k * 2)).block, (ad.add (k * 2)).off + 1, none⟩) (by show (ad.add (k * 2)).block < _; rw [block_of_add]; exact HAD.out)).trans HCE.out
  have hce0 : w4.drew.cell? ⟨(ad.add (k * 2)).block, (ad.add (k * 2)).off + 1, none⟩ = some (.int .i64 u) := hce
  go_region_held3 (fun w' => w'.cell? ⟨(ad.add (k * 2)).block, (ad.add (k * 2)).off + 1, none⟩ = some (.int .i64 u)) (first | (go_keep; done) | exact hce5 | exact hce0)
    (first
      | (refine step_append_src (by rfl) _ _ _ (by rfl) w.heap.size 23 i0 _ 2 24 Tryd.underlying25 hi0 hz0 hz1 hz2 rfl (by omega) (.slice A4 k c4) k _ (by rfl) HM4.out w.heap.size (some (ad.add (j * 2))) (n - j) (c - j) (rowE (es.drop j)) (by rfl) (by have h := reads_tail (HX.out.below HB4.out) hj1 hnc; rw [if_neg hkc] at h; exact h) (one_cells _) (by unfold maxLen; omega) (by omega) HB4.out.size ?_
         intro v5 w5 hm5 hr5
         have HB5 : Hid (Below w.heap.size w w5) := Lib.hid (HB4.out.drew.grown hr5.grown HB4.out.size (fun g hg => (HM4.out.lt g hg).1))
         obtain ⟨A5, c5, rfl⟩ := hm5.form
         have HM5 := Lib.hid hm5
         have hce5 : w5.cell? ⟨(ad.add (k * 2)).block, (ad.add (k * 2)).off + 1, none⟩ = some (.int .i64 u) := (HB5.out.cell (p := ⟨(ad.add (k * 2)).block, (ad.add (k * 2)).off + 1, none⟩) (by show (ad.add (k * 2)).block < _; rw [block_of_add]; exact HAD.out)).trans HCE.out
         clear hm5 hr5))
  go_wp2
  have HBF : Hid (Below w.heap.size w w5) := Lib.hid HB5.out
  go_ret3
  exact of_mid HM5.out (by rw [HRES.out, rowE_app]) HBF.out
theorem put_any (A : Option Addr) (n c : Nat) (es : List En) (t : ByteArray) (v : Int) (w : World) (hx : Reads w w.heap.size 2 A n (rowE es)) (hn : n ≤ 2000000) (hnc : n ≤ c) (hA : A = none → c = 0) :
    Calls Tryd.prog 16 #[.slice A n c, .agg #[.string t, .int .i64 v]] w (LE (putE t v es) (wasN t es) (thereN t es) w) := by
  have hl := ents_len hx
  have hs := seek_leN t es
  cases hth : thereN t es with
  | false =>
    have hw : wasN t es = 0 := by unfold wasN; rw [hth, if_neg (by decide)]
    rw [hw]
    by_cases hk : c = seekN t es
    · obtain rfl : n = c := by omega
      exact put_no_end A n es t v w hx hn hth (by omega)
    · cases A with
      | none => have := hA rfl; exact absurd (show c = seekN t es by omega) hk
      | some ad => exact put_no_mid ad n c es t v w hx hn hnc hth hk
  | true =>
    have hlt : seekN t es < n := by have h := of_decide_eq_true hth; rw [hl] at h; exact h.1
    cases A with
    | none => have := hA rfl; omega
    | some ad =>
      by_cases hk : c = seekN t es + 1
      · exact put_yes_end ad n c es t v w hx hn hnc hth hk
      · exact put_yes_mid ad n c es t v w hx hn hnc hth hk
theorem drop_any (A : Option Addr) (n c : Nat) (es : List En) (t : ByteArray) (w : World) (hx : Reads w w.heap.size 2 A n (rowE es)) (hn : n ≤ 2000000) (hnc : n ≤ c) (hA : A = none → c = 0) :
    Calls Tryd.prog 10 #[.slice A n c, .string t] w (LE (dropE t es) (wasN t es) (thereN t es) w) := by
  have hl := ents_len hx
  have hs := seek_leN t es
  cases hth : thereN t es with
  | false =>
    have hw : wasN t es = 0 := by unfold wasN; rw [hth, if_neg (by decide)]
    rw [hw]
    by_cases hk : c = seekN t es
    · obtain rfl : n = c := by omega
      exact drop_no_end A n es t w hx hn hth (by omega)
    · cases A with
      | none => have := hA rfl; exact absurd (show c = seekN t es by omega) hk
      | some ad => exact drop_no_mid ad n c es t w hx hn hnc hth hk
  | true =>
    have hlt : seekN t es < n := by have h := of_decide_eq_true hth; rw [hl] at h; exact h.1
    cases A with
    | none => have := hA rfl; omega
    | some ad =>
      by_cases hk : c = seekN t es + 1
      · exact drop_yes_end ad n c es t w hx hn hnc hth hk
      · exact drop_yes_mid ad n c es t w hx hn hnc hth hk
end Go.Proofs.YtbfmklaakjepaaaDoor
