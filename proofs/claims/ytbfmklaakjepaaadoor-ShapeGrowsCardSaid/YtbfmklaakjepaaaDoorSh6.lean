/-
  shape.Put and shape.Drop at any list of entries; conditions: lengths.
-/
import Derived.Test.YtbfmklaakjepaaaDoorSh5
namespace Go.Proofs.YtbfmklaakjepaaaDoor
open Go.RowKit Go.WideShapes Go.ChangeShapes
set_option linter.all false
def putE (t : ByteArray) (v : Int) (es : List En) : List En := es.take (seekN t es) ++ (t, v) :: es.drop (if thereN t es = true then seekN t es + 1 else seekN t es)
def wasN (t : ByteArray) (es : List En) : Int := if thereN t es = true then (es.getD (seekN t es) d0).2 else 0
def dropE (t : ByteArray) (es : List En) : List En := es.take (seekN t es) ++ es.drop (if thereN t es = true then seekN t es + 1 else seekN t es)
/-- A list of entries comes back, with two more results. -/
def LE (L : List En) (x : Int) (b : Bool) (w : World) (e : Ending) (w' : World) : Prop :=
  ∃ A n c, e = .returned (.tuple #[.slice A n c, .int .i64 x, .bool b]) ∧ Reads w' w'.heap.size 2 A n (rowE L) ∧ n ≤ c ∧ c ≤ maxLen ∧ (A = none → c = 0) ∧ Below w.heap.size w w'
theorem reads_front {w : World} {B n : Nat} {A : Option Addr} {es : List En} (h : Reads w B 2 A n (rowE es)) {k : Nat} (hk : k ≤ n) : Reads w B 2 A k (rowE (es.take k)) := by
  have hl := ents_len h
  refine ⟨by rw [rowE_len, List.length_take]; omega, fun hk0 => ?_⟩
  obtain ⟨ad, e, hb, hc⟩ := h.2 (by omega)
  refine ⟨ad, e, hb, fun j u hu => hc j u ?_⟩
  rw [rowE_take, List.getElem?_take] at hu
  split at hu
  · exact hu
  · cases hu
theorem reads_new (w : World) (t : ByteArray) (v : Int) : Reads (w.alloc (.cells #[.string t, .int .i64 v] 23)) (w.alloc (.cells #[.string t, .int .i64 v] 23)).heap.size 2 (some ⟨w.heap.size, 0, none⟩) 1 (rowE [(t, v)]) := by
  refine ⟨rfl, fun _ => ⟨_, rfl, by simp, fun j u hu => ?_⟩⟩
  rw [Addr.add_lit]
  rcases (by omega : j = 0 ∨ j = 1 ∨ 2 ≤ j) with rfl | rfl | q
  · simp only [rowE, List.getElem?_cons_zero, Option.some.injEq] at hu; subst hu; exact World.cell?_alloc_at _ _ _ _ rfl
  · simp only [rowE, List.getElem?_cons_succ, List.getElem?_cons_zero, Option.some.injEq] at hu; subst hu; exact World.cell?_alloc_at _ _ _ _ rfl
  · rw [List.getElem?_eq_none (by simp [rowE]; omega)] at hu; cases hu
theorem below_ran {wb w1 w2 : World} {v v' : Value} {n : Nat} {base : Nat} {xs : List Value} (h : Below base wb w1) (hm : Mid w1 base 23 2 v n xs) (hr : Ran v v' w1 w2) (hz : base ≤ w1.heap.size) : Below base wb w2 :=
  h.grown hr.grown hz fun g hg => (hm.lt g hg).1
theorem Mid.nilcap {w : World} {N n c size : Nat} {t : TypeId} {A : Option Addr} {xs : List Value} (h : Mid w N t size (.slice A n c) n xs) : A = none → c = 0 := by
  rintro rfl
  rcases h.2 with ⟨h', h0⟩ | ⟨g, off, cap, cur, h', _⟩
  · injection h'
  · injection h' with h1; cases h1
theorem reads_tail {w : World} {B n c : Nat} {A : Option Addr} {es : List En} (h : Reads w B 2 A n (rowE es)) {k : Nat} (hk : k ≤ n) (hn : n ≤ c) : Reads w B 2 (if c = k then A else A.map (·.add (k * 2))) (n - k) (rowE (es.drop k)) := by
  rw [rowE_drop]; exact h.cut hk hn
theorem of_mid {w w' : World} {N n c : Nat} {A : Option Addr} {L : List En} {xs : List Value} {x : Int} {b : Bool} (h : Mid w' N 23 2 (.slice A n c) n xs) (hx : xs = rowE L) (hb : Below w.heap.size w w') :
    LE L x b w (.returned (.tuple #[.slice A n c, .int .i64 x, .bool b])) w' :=
  ⟨A, n, c, rfl, by rw [← hx]; exact h.reads, h.caps.1, h.caps.2, h.nilcap, hb⟩
set_option maxRecDepth 100000 in
set_option maxHeartbeats 1600000 in
theorem put_no_end (A : Option Addr) (n : Nat) (es : List En) (t : ByteArray) (v : Int) (w : World) (hx : Reads w w.heap.size 2 A n (rowE es)) (hn : n ≤ 2000000) (hth : thereN t es = false) (hkc : seekN t es = n) :
    Calls Tryd.prog 16 #[.slice A n n, .agg #[.string t, .int .i64 v]] w (LE (putE t v es) 0 false w) := by
  obtain ⟨i0, hi0, hz0, hz1, hz2⟩ := info_parts infoE
  have LX : Hid (es.length = n) := Lib.hid (ents_len hx)
  have HS := seek_leN t es
  rw [LX.out] at HS
  obtain ⟨k, hk⟩ : ∃ k, k = seekN t es := ⟨_, rfl⟩
  have HK := Lib.hid hk
  rw [← hk] at HS
  have hkn : k = n := by rw [hk]; exact hkc
  clear hk hkc
  subst hkn
  have HTH := Lib.hid hth
  obtain ⟨wb, hwb⟩ : ∃ wb, w.alloc (.cells #[.string t, .int .i64 v] 23) = wb := ⟨_, rfl⟩
  have HW := Lib.hid hwb
  have HSZ : Hid (wb.heap.size = w.heap.size + 1) := Lib.hid (by rw [← hwb]; simp)
  have HX : Hid (Reads wb wb.heap.size 2 A k (rowE es)) := Lib.hid (by rw [← hwb]; exact (hx.alloc (Nat.le_refl _) _).more (by simp))
  have BX0 : Hid (wb.cell? ⟨w.heap.size, 0, none⟩ = some (.string t)) := Lib.hid (by rw [← hwb]; exact World.cell?_alloc_at _ _ _ _ rfl)
  have BX1 : Hid (wb.cell? ⟨w.heap.size, 1, none⟩ = some (.int .i64 v)) := Lib.hid (by rw [← hwb]; exact World.cell?_alloc_at _ _ _ _ rfl)
  have HBW : Hid (Below w.heap.size w wb) := Lib.hid (by rw [← hwb]; exact (Below.refl _ _).alloc (Nat.le_refl _) _)
  clear hx hth hwb
  have HRES : Hid (putE t v es = es.take k ++ (t, v) :: es.drop k) := Lib.hid (by unfold putE; rw [HTH.out, ← HK.out, if_neg (by decide)])
  have hk0 : k - k = 0 := by omega
  go_enter Tryd.func16, Tryd.ntmps16
  go_wp2_with (first
    | (go_at_call 22; rw [HW.out]; refine (find_any _ _ _ es t _ HX.out (by omega)).mono ?_; rintro e w1 ⟨rfl, hb1⟩; rw [← HK.out, HTH.out]; have HB1 := Lib.hid hb1; have hz1' := hb1.size; clear hb1; have G1 : Hid True := trivial)
    | (clear G1; refine wpList_make_own _ rfl (.const (.int .i64 0)) (.tmp 19) 25 rfl wb.heap.size 23 i0 _ 2 Tryd.underlying25 hi0 hz0 hz1 .i64 .i64 _ (k + 1) rfl rfl (by simp) (by rw [hz2]; omega) (by unfold maxLen; omega) hz1' ?_
       intro w2 hown hg1
       have HB2 : Hid (Below wb.heap.size wb w2) := Lib.hid (HB1.out.grown hg1 hz1' (fun g hg => by cases hg))
       have HM2 := Lib.hid (Mid.of_own hown)
       clear hown hg1
       have G2 : Hid True := trivial)
    | (clear G2; refine wpList_append_src rfl (.tmp 21) (.tmp 24) 25 rfl wb.heap.size 23 i0 _ 2 24 Tryd.underlying25 hi0 hz0 hz1 hz2 rfl (by omega) _ 0 [] rfl HM2.out wb.heap.size A k k (rowE (es.take k)) rfl (reads_front (HX.out.below HB2.out) HS) (one_cells _) (by unfold maxLen; omega) (by omega) HB2.out.size ?_
       intro v3 w3 hm3 hr3
       have HB3 : Hid (Below wb.heap.size wb w3) := Lib.hid (HB2.out.grown hr3.grown HB2.out.size (fun g hg => (HM2.out.lt g hg).1))
       rw [Nat.zero_add, List.nil_append] at hm3
       obtain ⟨A3, c3, rfl⟩ := hm3.form
       have HM3 := Lib.hid hm3
       have q0 : w3.cell? ⟨w.heap.size, 0, none⟩ = some (.string t) := (HB3.out.cell (p := ⟨w.heap.size, 0, none⟩) (by rw [HSZ.out]; exact Nat.lt_succ_self _)).trans BX0.out
       have q1 : w3.cell? ⟨w.heap.size, 1, none⟩ = some (.int .i64 v) := (HB3.out.cell (p := ⟨w.heap.size, 1, none⟩) (by rw [HSZ.out]; exact Nat.lt_succ_self _)).trans BX1.out
       clear hm3 hr3
       have G3 : Hid True := trivial)
    | (clear G3; refine wpList_append_src rfl (.tmp 26) (.tmp 28) 25 rfl wb.heap.size 23 i0 _ 2 24 Tryd.underlying25 hi0 hz0 hz1 hz2 rfl (by omega) _ _ _ rfl (HM3.out.same fun g hg => Below.heap_alloc _ _ g (HM3.out.lt g hg).2) _ _ 1 1 (rowE [(t, v)]) rfl (reads_new w3 t v) (one_cells _) (by unfold maxLen; omega) (by omega) (by have := HB3.out.size; simp; omega) ?_
       intro v4 w4 hm4 hr4
       have HB4 : Hid (Below wb.heap.size wb w4) := Lib.hid ((HB3.out.alloc HB3.out.size _).grown hr4.grown (by have := HB3.out.size; simp; omega) (fun g hg => (HM3.out.lt g hg).1))
       obtain ⟨A4, c4, rfl⟩ := hm4.form
       have HM4 := Lib.hid hm4
       clear hm4 hr4 q0 q1
       have G4 : Hid True := trivial)
    | (clear G4; refine wpList_append_src rfl (.tmp 32) (.tmp 35) 25 rfl wb.heap.size 23 i0 _ 2 24 Tryd.underlying25 hi0 hz0 hz1 hz2 rfl (by omega) _ _ _ rfl HM4.out wb.heap.size A (0) (0) (rowE (es.drop k)) rfl (by have h := reads_tail (HX.out.below HB4.out) (Nat.le_refl _) (Nat.le_refl _); rw [if_pos rfl, hk0] at h; exact h) (one_cells _) (by unfold maxLen; omega) (by omega) HB4.out.size ?_
       intro v5 w5 hm5 hr5
       have HB5 : Hid (Below wb.heap.size wb w5) := Lib.hid (HB4.out.grown hr5.grown HB4.out.size (fun g hg => (HM4.out.lt g hg).1))
       obtain ⟨A5, c5, rfl⟩ := hm5.form
       have HM5 := Lib.hid hm5
       clear hm5 hr5)
    | fail)
  have HBF : Hid (Below w.heap.size w w5) := Lib.hid (HBW.out.trans (HB5.out.mono HBW.out.size))
  go_ret3
  exact of_mid HM5.out (by rw [HRES.out]; simp [rowE_app, rowE]) HBF.out
set_option maxRecDepth 100000 in
set_option maxHeartbeats 1600000 in
theorem put_no_mid (ad : Addr) (n c : Nat) (es : List En) (t : ByteArray) (v : Int) (w : World) (hx : Reads w w.heap.size 2 (some ad) n (rowE es)) (hn : n ≤ 2000000) (hnc : n ≤ c) (hth : thereN t es = false) (hkc : ¬ c = seekN t es) :
    Calls Tryd.prog 16 #[.slice (some ad) n c, .agg #[.string t, .int .i64 v]] w (LE (putE t v es) 0 false w) := by
  obtain ⟨i0, hi0, hz0, hz1, hz2⟩ := info_parts infoE
  have LX : Hid (es.length = n) := Lib.hid (ents_len hx)
  have HS := seek_leN t es
  rw [LX.out] at HS
  obtain ⟨k, hk⟩ : ∃ k, k = seekN t es := ⟨_, rfl⟩
  have HK := Lib.hid hk
  rw [← hk] at HS hkc
  clear hk
  have HTH := Lib.hid hth
  obtain ⟨wb, hwb⟩ : ∃ wb, w.alloc (.cells #[.string t, .int .i64 v] 23) = wb := ⟨_, rfl⟩
  have HW := Lib.hid hwb
  have HSZ : Hid (wb.heap.size = w.heap.size + 1) := Lib.hid (by rw [← hwb]; simp)
  have HX : Hid (Reads wb wb.heap.size 2 (some ad) n (rowE es)) := Lib.hid (by rw [← hwb]; exact (hx.alloc (Nat.le_refl _) _).more (by simp))
  have BX0 : Hid (wb.cell? ⟨w.heap.size, 0, none⟩ = some (.string t)) := Lib.hid (by rw [← hwb]; exact World.cell?_alloc_at _ _ _ _ rfl)
  have BX1 : Hid (wb.cell? ⟨w.heap.size, 1, none⟩ = some (.int .i64 v)) := Lib.hid (by rw [← hwb]; exact World.cell?_alloc_at _ _ _ _ rfl)
  have HBW : Hid (Below w.heap.size w wb) := Lib.hid (by rw [← hwb]; exact (Below.refl _ _).alloc (Nat.le_refl _) _)
  clear hx hth hwb
  have HRES : Hid (putE t v es = es.take k ++ (t, v) :: es.drop k) := Lib.hid (by unfold putE; rw [HTH.out, ← HK.out, if_neg (by decide)])
  go_enter Tryd.func16, Tryd.ntmps16
  go_wp2_with (first
    | (go_at_call 22; rw [HW.out]; refine (find_any _ _ _ es t _ HX.out (by omega)).mono ?_; rintro e w1 ⟨rfl, hb1⟩; rw [← HK.out, HTH.out]; have HB1 := Lib.hid hb1; have hz1' := hb1.size; clear hb1; have G1 : Hid True := trivial)
    | (clear G1; refine wpList_make_own _ rfl (.const (.int .i64 0)) (.tmp 19) 25 rfl wb.heap.size 23 i0 _ 2 Tryd.underlying25 hi0 hz0 hz1 .i64 .i64 _ (n + 1) rfl rfl (by simp) (by rw [hz2]; omega) (by unfold maxLen; omega) hz1' ?_
       intro w2 hown hg1
       have HB2 : Hid (Below wb.heap.size wb w2) := Lib.hid (HB1.out.grown hg1 hz1' (fun g hg => by cases hg))
       have HM2 := Lib.hid (Mid.of_own hown)
       clear hown hg1
       have G2 : Hid True := trivial)
    | (clear G2; refine wpList_append_src rfl (.tmp 21) (.tmp 24) 25 rfl wb.heap.size 23 i0 _ 2 24 Tryd.underlying25 hi0 hz0 hz1 hz2 rfl (by omega) _ 0 [] rfl HM2.out wb.heap.size (some ad) k c (rowE (es.take k)) rfl (reads_front (HX.out.below HB2.out) HS) (one_cells _) (by unfold maxLen; omega) (by omega) HB2.out.size ?_
       intro v3 w3 hm3 hr3
       have HB3 : Hid (Below wb.heap.size wb w3) := Lib.hid (HB2.out.grown hr3.grown HB2.out.size (fun g hg => (HM2.out.lt g hg).1))
       rw [Nat.zero_add, List.nil_append] at hm3
       obtain ⟨A3, c3, rfl⟩ := hm3.form
       have HM3 := Lib.hid hm3
       have q0 : w3.cell? ⟨w.heap.size, 0, none⟩ = some (.string t) := (HB3.out.cell (p := ⟨w.heap.size, 0, none⟩) (by rw [HSZ.out]; exact Nat.lt_succ_self _)).trans BX0.out
       have q1 : w3.cell? ⟨w.heap.size, 1, none⟩ = some (.int .i64 v) := (HB3.out.cell (p := ⟨w.heap.size, 1, none⟩) (by rw [HSZ.out]; exact Nat.lt_succ_self _)).trans BX1.out
       clear hm3 hr3
       have G3 : Hid True := trivial)
    | (clear G3; refine wpList_append_src rfl (.tmp 26) (.tmp 28) 25 rfl wb.heap.size 23 i0 _ 2 24 Tryd.underlying25 hi0 hz0 hz1 hz2 rfl (by omega) _ _ _ rfl (HM3.out.same fun g hg => Below.heap_alloc _ _ g (HM3.out.lt g hg).2) _ _ 1 1 (rowE [(t, v)]) rfl (reads_new w3 t v) (one_cells _) (by unfold maxLen; omega) (by omega) (by have := HB3.out.size; simp; omega) ?_
       intro v4 w4 hm4 hr4
       have HB4 : Hid (Below wb.heap.size wb w4) := Lib.hid ((HB3.out.alloc HB3.out.size _).grown hr4.grown (by have := HB3.out.size; simp; omega) (fun g hg => (HM3.out.lt g hg).1))
       obtain ⟨A4, c4, rfl⟩ := hm4.form
       have HM4 := Lib.hid hm4
       clear hm4 hr4 q0 q1
       have G4 : Hid True := trivial)
    | (clear G4; refine wpList_append_src rfl (.tmp 32) (.tmp 35) 25 rfl wb.heap.size 23 i0 _ 2 24 Tryd.underlying25 hi0 hz0 hz1 hz2 rfl (by omega) _ _ _ rfl HM4.out wb.heap.size (some (ad.add (k * 2))) (n - k) (c - k) (rowE (es.drop k)) rfl (by have h := reads_tail (HX.out.below HB4.out) HS hnc; rw [if_neg hkc] at h; exact h) (one_cells _) (by unfold maxLen; omega) (by omega) HB4.out.size ?_
       intro v5 w5 hm5 hr5
       have HB5 : Hid (Below wb.heap.size wb w5) := Lib.hid (HB4.out.grown hr5.grown HB4.out.size (fun g hg => (HM4.out.lt g hg).1))
       obtain ⟨A5, c5, rfl⟩ := hm5.form
       have HM5 := Lib.hid hm5
       clear hm5 hr5)
    | fail)
  have HBF : Hid (Below w.heap.size w w5) := Lib.hid (HBW.out.trans (HB5.out.mono HBW.out.size))
  go_ret3
  exact of_mid HM5.out (by rw [HRES.out]; simp [rowE_app, rowE]) HBF.out
end Go.Proofs.YtbfmklaakjepaaaDoor
