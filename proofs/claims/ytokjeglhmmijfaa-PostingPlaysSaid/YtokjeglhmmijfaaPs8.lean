/-
  posting.Has, Len, Ids, Blocks; conditions: a right list.
-/
import Derived.Test.YtokjeglhmmijfaaPs7
namespace Go.Proofs.Ytokjeglhmmijfaa
open Go.RowKit Go.WideShapes Go.ChangeShapes
set_option linter.all false
def hasB (x : Int) (l : List Nat) : Bool := decide (∃ y ∈ l, ((y : Nat) : Int) = x)
theorem has_of {x : Int} {l : List Nat} {p : Nat} (ha : ascB p l = true) : hasB x l = match fndI x l with | none => false | some y => decide ((y : Int) = x) := by
  unfold hasB
  cases hf : fndI x l with
  | none =>
    simp only [decide_eq_false_iff_not]
    rintro ⟨y, hy, e⟩
    have := fnd_some hf y hy; omega
  | some y =>
    obtain ⟨h1, h2, h3⟩ := fnd_mem ha hf
    simp only [decide_eq_decide]
    constructor
    · rintro ⟨z, hz, e⟩
      have := h3 z hz (by omega); omega
    · intro e; exact ⟨y, h1, e⟩
set_option maxRecDepth 100000 in
set_option maxHeartbeats 1600000 in
theorem has_any (A : Option Addr) (n c : Nat) (L : List (List Nat)) (x : Int) (w : World) (h : PL w w.heap.size A n c L) (hR : RL L) (hn : n ≤ 1000000) :
    Calls Try.prog 21 #[plV A n c, .int .i64 x] w fun e w' => e = .returned (.bool (hasB x L.flatten)) ∧ Below w.heap.size w w' := by
  obtain ⟨wb, hwb⟩ : ∃ wb, w.alloc (.cells #[.slice A n c] 24) = wb := ⟨_, rfl⟩
  have HX : Hid (PBox A n c w wb) := Lib.hid (hwb ▸ PBox.new A n c w)
  have p0 := HX.out.cell
  have hh := has_of (x := x) hR.asc
  have HC : Hid (Calls Try.prog 20 #[plV A n c, .int .i64 x] wb (SeekP (fndI x L.flatten) wb)) := Lib.hid (seek_any A n c L x wb (h.on HX.out.bel) hR hn)
  have HW := Lib.hid hwb
  obtain ⟨b, hb⟩ : ∃ b, b = hasB x L.flatten := ⟨_, rfl⟩
  rw [← hb] at hh ⊢
  cases hf : fndI x L.flatten with
  | none =>
    rw [hf] at hh HC
    obtain rfl : b = false := hh
    have HB := Lib.hid hb
    clear hb hf hwb h hR
    unfold plV at HC ⊢
    go_enter Try.func21, Try.ntmps21
    go_upto_region 1 with (fail)
    rw [HW.out]
    go_wp2_with (first
      | (go_at_call 20; refine HC.out.mono ?_; rintro e w2 ⟨rfl, hb2⟩; have HB2 := Lib.hid hb2; clear hb2)
      | fail)
    go_ret
    exact ⟨rfl, (HX.out.on HB2.out).bel⟩
  | some y =>
    rw [hf] at hh HC
    have HB := Lib.hid hb
    by_cases hy : (y : Int) = x
    · obtain rfl : b = true := by rw [hh]; simp [hy]
      have hyx : ((y : Int) == x) = true := by simp [hy]
      clear hb hf hwb h hR hh hy
      unfold plV at HC ⊢
      go_enter Try.func21, Try.ntmps21
      go_upto_region 1 with (fail)
      rw [HW.out]
      go_wp2_with (first
        | (go_at_call 20; refine HC.out.mono ?_; rintro e w2 ⟨rfl, hb2⟩; have HB2 := Lib.hid hb2; clear hb2)
        | fail)
      go_ret
      exact ⟨rfl, (HX.out.on HB2.out).bel⟩
    · obtain rfl : b = false := by rw [hh]; simp [hy]
      have hyx : ((y : Int) == x) = false := by simp [hy]
      clear hb hf hwb h hR hh hy
      unfold plV at HC ⊢
      go_enter Try.func21, Try.ntmps21
      go_upto_region 1 with (fail)
      rw [HW.out]
      go_wp2_with (first
        | (go_at_call 20; refine HC.out.mono ?_; rintro e w2 ⟨rfl, hb2⟩; have HB2 := Lib.hid hb2; clear hb2)
        | fail)
      go_ret
      exact ⟨rfl, (HX.out.on HB2.out).bel⟩
theorem take_flat {L : List (List Nat)} {j : Nat} (h : j < L.length) : (L.take (j + 1)).flatten = (L.take j).flatten ++ L.getD j [] := by
  rw [List.take_succ_eq_append_getElem h, List.getD_eq_getElem?_getD, List.getElem?_eq_getElem h, List.flatten_append, List.flatten_cons, List.flatten_nil, List.append_nil]; rfl
theorem flat_le {L : List (List Nat)} (h : ∀ b ∈ L, b.length ≤ 16) : L.flatten.length ≤ 16 * L.length := by
  induction L with
  | nil => simp
  | cons b r ih =>
    have := h b (List.mem_cons_self ..)
    have := ih fun c hc => h c (List.mem_cons_of_mem _ hc)
    rw [List.flatten_cons, List.length_append, List.length_cons]; omega
set_option maxRecDepth 100000 in
set_option maxHeartbeats 1600000 in
theorem len_any (A : Option Addr) (n c : Nat) (L : List (List Nat)) (w : World) (h : PL w w.heap.size A n c L) (hR : RL L) (hn : n ≤ 1000000) :
    Calls Try.prog 15 #[plV A n c] w fun e w' => e = .returned (.int .i64 ((L.flatten.length : Nat) : Int)) ∧ Below w.heap.size w w' := by
  obtain ⟨wb, hwb⟩ : ∃ wb, w.alloc (.cells #[.slice A n c] 24) = wb := ⟨_, rfl⟩
  have HX : Hid (PBox A n c w wb) := Lib.hid (hwb ▸ PBox.new A n c w)
  have p0 := HX.out.cell
  have HL := Lib.hid h
  have HR := Lib.hid hR
  have HLN := Lib.hid h.len
  have HW := Lib.hid hwb
  clear hwb h hR
  unfold plV
  go_enter Try.func15, Try.ntmps15
  go_upto_region 2 with (fail)
  rw [HW.out]
  go_wp2
  clear p0
  go_loopw [3, 4, 8] (fun s _ i wr => ∃ j m : Nat, i = .int .i64 j ∧ j ≤ n ∧ s = .int .i64 m ∧ m ≤ 16 * j ∧ Hid (m = (L.take j).flatten.length) ∧ Hid (PBox A n c w wr)) (fun _ _ i _ => n - (intOf i).toNat)
  case atStart => exact ⟨0, 0, rfl, Nat.zero_le _, rfl, by omega, Lib.hid (by simp), HX⟩
  case round =>
    obtain ⟨j, m, rfl, hj, rfl, hm, HM, HY⟩ := hrel
    have p0 := HY.out.cell
    by_cases hlt : j < n
    · have hjl : j < L.length := by rw [HLN.out]; exact hlt
      obtain ⟨b, hb⟩ : ∃ b, b = L.getD j [] := ⟨_, rfl⟩
      have hbl : b.length ≤ 16 := by rw [hb]; exact (HR.out.len _ (getD_mem hjl)).2
      have HN : Hid (m + b.length = (L.take (j + 1)).flatten.length) := Lib.hid (by rw [take_flat hjl, List.length_append, ← HM.out, hb])
      have HBE := Lib.hid hb
      clear hb hjl
      go_wp2_with (first
        | (go_at_call 35; refine (block_any A n c j L _ ((HL.out.on HY.out.bel)) HR.out hlt).mono ?_; rintro e w3 ⟨A3, c3, rfl, hb3, hm3⟩
           rw [← HBE.out] at hm3 ⊢
           have HB3 := Lib.hid hb3
           clear hb3 hm3)
        | fail)
      go_roundw
      case rel => exact ⟨j + 1, m + b.length, by go_num, by omega, by go_num, by omega, HN, Lib.hid (HY.out.on HB3.out)⟩
      case measure => simp only [intOf]; omega
    · obtain rfl : n = j := by omega
      have HE : Hid (m = L.flatten.length) := Lib.hid (by rw [HM.out, List.take_of_length_le (by rw [HLN.out]; exact Nat.le_refl _)])
      go_wp2
      go_ret
      exact ⟨by rw [HE.out]; rfl, HY.out.bel⟩
/-- A list of lists, all of the call's own. -/
structure OO (w : World) (N : Nat) (V : Value) (own : List Ar) : Prop where
  row : Mid w N 28 1 V own.length (own.map Ar.v)
  els : ∀ e ∈ own, Mid w N 3 1 e.v e.n (ks .i64 e.l)
  le : N ≤ w.heap.size
theorem OO.nil (w : World) (N : Nat) (hN : N ≤ w.heap.size) : OO w N (.slice none 0 0) [] := ⟨Mid.nil _ _ _ _, by simp, hN⟩
theorem OO.onb {w w' : World} {N : Nat} {V : Value} {own : List Ar} (h : OO w N V own) (hb : Below w.heap.size w w') : OO w' N V own :=
  ⟨h.row.onb hb, fun e he => (h.els e he).onb hb, Nat.le_trans h.le hb.size⟩
theorem OO.lower {w : World} {N N' : Nat} {V : Value} {own : List Ar} (h : OO w N V own) (hn : N' ≤ N) : OO w N' V own := ⟨h.row.lower hn, fun e he => (h.els e he).lower hn, Nat.le_trans hn h.le⟩
theorem OO.snoc {w w' : World} {N : Nat} {V V' : Value} {own : List Ar} {e : Ar} (h : OO w N V own) (he : Mid w N 3 1 e.v e.n (ks .i64 e.l)) (hm : Mid w' N 28 1 V' (own.length + 1) (own.map Ar.v ++ [e.v])) (hr : Ran V V' w w') : OO w' N V' (own ++ [e]) := by
  refine ⟨by rw [List.length_append, List.map_append]; exact hm, fun x hx => ?_, Nat.le_trans h.le hr.grown.size⟩
  rw [List.mem_append, List.mem_singleton] at hx
  rcases hx with hx | rfl
  · exact (h.els x hx).on_ran h.row (by decide) hr
  · exact he.on_ran h.row (by decide) hr
theorem info28 : (Try.prog.info? 28).map (fun i => (i.zero, i.size, i.bytes)) = some (some (.slice none 0 0), 1, 24) := by kernel_rfl
def BlksP (L : List (List Nat)) (w : World) (e : Ending) (w' : World) : Prop := ∃ A c own, e = .returned (.slice A L.length c) ∧ Below w.heap.size w w' ∧ OO w' w.heap.size (.slice A L.length c) own ∧ own.map Ar.l = L.map nb
set_option maxRecDepth 100000 in
set_option maxHeartbeats 1600000 in
theorem blocks_any (A : Option Addr) (n c : Nat) (L : List (List Nat)) (w : World) (h : PL w w.heap.size A n c L) (hR : RL L) (hn : n ≤ 1000000) :
    Calls Try.prog 16 #[plV A n c] w (BlksP L w) := by
  obtain ⟨i0, hi0, hz0, hz1, hz2⟩ := info_parts info28
  obtain ⟨wb, hwb⟩ : ∃ wb, w.alloc (.cells #[.slice A n c] 24) = wb := ⟨_, rfl⟩
  have HX : Hid (PBox A n c w wb) := Lib.hid (hwb ▸ PBox.new A n c w)
  have p0 := HX.out.cell
  have HL := Lib.hid h
  have HR := Lib.hid hR
  have HLN := Lib.hid h.len
  have HW := Lib.hid hwb
  clear hwb h hR
  unfold plV
  go_enter Try.func16, Try.ntmps16
  go_upto_region 2 with (fail)
  rw [HW.out]
  go_wp2
  clear p0
  go_loopw [3, 4, 8] (fun s _ i wr => ∃ (j : Nat) (V : Value), i = .int .i64 j ∧ j ≤ n ∧ s = V ∧ Hid (PBox A n c w wr) ∧ Hid (∃ own : List Ar, own.length = j ∧ OO wr (w.heap.size + 1) V own ∧ own.map Ar.l = (L.take j).map nb)) (fun _ _ i _ => n - (intOf i).toNat)
  case atStart => exact ⟨0, _, rfl, Nat.zero_le _, rfl, HX, Lib.hid ⟨[], rfl, OO.nil _ _ HX.out.lt, by simp⟩⟩
  case round =>
    obtain ⟨j, V, rfl, hj, hV, HY, HO⟩ := hrel
    subst hV
    obtain ⟨own, hol, hoo, hom⟩ := HO.out
    obtain ⟨A1, c1, e1⟩ := hoo.row.form
    subst e1
    subst hol
    have p0 := HY.out.cell
    by_cases hlt : own.length < n
    · have hjl : own.length < L.length := by rw [HLN.out]; exact hlt
      obtain ⟨b, hb⟩ : ∃ b, b = L.getD own.length [] := ⟨_, rfl⟩
      have HN : Hid ((L.take own.length).map nb ++ [nb b] = (L.take (own.length + 1)).map nb) := Lib.hid (by
        rw [List.take_succ_eq_append_getElem hjl, hb, List.getD_eq_getElem?_getD, List.getElem?_eq_getElem hjl, List.map_append]; rfl)
      have HBE := Lib.hid hb
      have HOM := Lib.hid hom
      have HOO := Lib.hid hoo
      clear hb hjl hom hoo
      obtain ⟨j, hjj⟩ : ∃ j, j = own.length := ⟨_, rfl⟩
      rw [← hjj] at hlt hj HN HBE HOM HO ⊢
      have HJ := Lib.hid hjj
      clear hjj HO
      go_wp2_with (first
        | (go_at_call 35; refine (block_any A n c j L _ ((HL.out.on HY.out.bel)) HR.out hlt).mono ?_; rintro e w3 ⟨A3, c3, rfl, hb3, hm3⟩
           rw [← HBE.out] at hm3 ⊢
           have HB3 := Lib.hid hb3
           have HM3 := Lib.hid hm3
           clear hb3 hm3)
        | (refine wpList_append_mid rfl (.tmp 11) (.tmp 15) 33 rfl (w.heap.size + 1) 28 i0 _ 1 24 Try.underlying33 hi0 hz0 hz1 hz2 rfl (by omega) (.slice A1 j c1) _ _ rfl (((by rw [HJ.out]; exact HOO.out.row : Mid wr (w.heap.size + 1) 28 1 (.slice A1 j c1) j (own.map Ar.v)).onb HB3.out).alloc_ _) ⟨w3.heap.size, 0, none⟩ 1 1 [.slice A3 b.length c3] rfl rfl (World.news_of_block (cs := #[.slice A3 b.length c3]) (t := 28) (fr := (0, 0)) (heap_alloc_new w3 _)) (by simp [Value.oneCell']) (by unfold maxLen; omega) (by omega) (by have := HY.out.lt; have := HB3.out.size; simp; omega) ?_
           intro v' w4 hmm hran
           have HMM := Lib.hid hmm
           have HRN := Lib.hid hran
           clear hmm hran)
        | fail)
      have HF : Hid (∃ own' : List Ar, own'.length = j + 1 ∧ OO w4 (w.heap.size + 1) v' own' ∧ own'.map Ar.l = (L.take (j + 1)).map nb) := Lib.hid (by
        have hoo3 := (HOO.out.onb HB3.out).onb (below_alloc w3 (.cells #[.slice A3 b.length c3] 28))
        refine ⟨own ++ [⟨A3, b.length, c3, nb b⟩], by rw [List.length_append, HJ.out]; rfl, ?_, by rw [List.map_append, HOM.out, ← HN.out]; rfl⟩
        refine OO.snoc (w := w3.alloc (.cells #[.slice A3 b.length c3] 28)) (V := .slice A1 j c1) (by rw [HJ.out]; exact hoo3) ((HM3.out.lower HY.out.lt).alloc_ _) (by rw [← HJ.out]; exact HMM.out) HRN.out)
      have HB4 : Hid (PBox A n c w w4) := Lib.hid ((HY.out.on (HB3.out.trans ((below_alloc w3 (.cells #[.slice A3 b.length c3] 28)).mono HB3.out.size))).ran (((by rw [HJ.out]; exact HOO.out.row : Mid wr (w.heap.size + 1) 28 1 (.slice A1 j c1) j (own.map Ar.v)).onb HB3.out).alloc_ _) HRN.out)
      go_roundw
      case rel => exact ⟨j + 1, v', by go_num, by omega, rfl, HB4, HF⟩
      case measure => simp only [intOf]; omega
    · have hnj : n = own.length := by omega
      have HE : Hid (own.map Ar.l = L.map nb) := Lib.hid (by rw [hom, List.take_of_length_le (by rw [HLN.out]; omega)])
      have HLL : Hid (L.length = own.length) := Lib.hid (by rw [HLN.out]; exact hnj)
      have HOO := Lib.hid hoo
      clear hom hoo HO
      generalize hJ : own.length = J at *
      have HJ := Lib.hid hJ
      clear hJ
      have hnl : ¬ (J : Int) < n := by omega
      clear hnj
      go_wp2
      go_ret
      refine ⟨A1, c1, own, by rw [HLL.out]; rfl, HY.out.bel, by rw [HLL.out]; exact HOO.out.lower (Nat.le_succ _), HE.out⟩
end Go.Proofs.Ytokjeglhmmijfaa
