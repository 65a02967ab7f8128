/-
  First: the first numbers of the union of lists; conditions: lengths.
-/
import Derived.Test.YthgjpdbajmfclaaMg9
namespace Go.Proofs.Ythgjpdbajmfclaa
open Go.RowKit Go.WideShapes Go.ChangeShapes
set_option linter.all false
def tot (P : Nat) (w : World) : Nat := match w.cell? ⟨P, 0, none⟩ with
  | some (.slice (some a) n _) => ((List.range n).map fun i => match w.cell? ⟨a.block, i, none⟩ with | some v => lenV v | none => 0).sum
  | _ => 0
theorem sum_sumN : ∀ H : List El, (H.map (·.n)).sum = sumN H
  | [] => rfl
  | e :: r => by rw [List.map_cons, List.sum_cons, sum_sumN r]; rfl
theorem tot_heap {P g B c : Nat} {H : List El} {w : World} (hc : w.cell? ⟨P, 0, none⟩ = some (.slice (some ⟨g, 0, none⟩) H.length c)) (h : Row g B H w) : tot P w = sumN H := by
  unfold tot
  rw [hc]
  simp only
  rw [← sum_sumN]
  congr 1
  apply List.ext_getElem
  · simp
  · intro i h1 h2
    have hi : i < H.length := by simpa using h2
    rw [List.getElem_map, List.getElem_map, List.getElem_range, h.cell i hi, List.getD_eq_getElem?_getD, List.getElem?_eq_getElem hi]
    rfl
theorem Row.take {g B : Nat} {xs : List El} {w : World} (h : Row g B xs w) (k : Nat) : Row g B (xs.take k) w := by
  have e : ∀ m, m < (xs.take k).length → (xs.take k).getD m dE = xs.getD m dE ∧ m < xs.length := by
    intro m hm
    rw [List.length_take] at hm
    exact ⟨by simp [List.getD_eq_getElem?_getD, List.getElem?_take, show m < k by omega], by omega⟩
  exact ⟨fun m hm => by rw [(e m hm).1]; exact h.cell m (e m hm).2, fun m hm => h.free m (e m hm).2, fun m hm => by rw [(e m hm).1]; exact h.ok m (e m hm).2⟩
theorem Row.far {g B : Nat} {xs : List El} {w w' : World} (h : Row g B xs w) (hb : w'.heap[g]? = w.heap[g]?) (hB : Below B w w') : Row g B xs w' :=
  ⟨fun m hm => (World.cell?_of_block hb).trans (h.cell m hm), fun m hm => (World.frozen?_of_block hb).trans (h.free m hm), fun m hm => (h.ok m hm).below hB⟩
/-- What First holds. -/
structure FS (U : List Int) (n : Int) (B P : Nat) (w wr : World) (R : List Int) (vR : Value) (H : List El) (hv : Value) : Prop where
  cell : wr.cell? ⟨P, 0, none⟩ = some hv
  free : wr.frozen? ⟨P, 0, none⟩ = false
  heap : (hv = .slice none 0 0 ∧ H = []) ∨ ∃ g c, hv = .slice (some ⟨g, 0, none⟩) H.length c ∧ H.length ≤ c ∧ B ≤ g ∧ g < P ∧ Row g B H wr ∧ Heaped H H.length
  row : Mid wr (P + 1) 3 1 vR R.length (ks .i64 R)
  below : Below B w wr
  lt : P < wr.heap.size
  fi : FI U R H
  many : R.length ≤ n.toNat
  few : H.length ≤ 100
theorem FS.result {U R : List Int} {n : Int} {B P : Nat} {w wr : World} {vR hv : Value} {H : List El} (hU : SortedI U) (h : FS U n B P w wr R vR H hv) (he : H = [] ∨ ¬ (R.length : Int) < n) : R = U.take n.toNat := by
  rcases he with rfl | he
  · have := FI.done hU h.fi
    subst this
    rw [List.take_of_length_le h.many]
  · have e : R.length = n.toNat := by have := h.many; omega
    have := FI.take hU h.fi
    rw [e] at this; exact this
theorem far_cell {P g : Nat} {w : World} (h : P ≠ g) (u : Value) : (w.setCell ⟨g, 0, none⟩ u).cell? ⟨P, 0, none⟩ = w.cell? ⟨P, 0, none⟩ := World.cell?_of_block (Below.heap_setCell _ _ _ _ h)
theorem FS.tot_eq {U R : List Int} {n : Int} {B P : Nat} {w wr : World} {vR hv : Value} {H : List El} (h : FS U n B P w wr R vR H hv) : tot P wr = sumN H := by
  have hc := h.cell
  rcases h.heap with ⟨e, e2⟩ | ⟨g, c, e, _, _, _, hr, _⟩
  · rw [e] at hc
    rw [e2]
    unfold tot
    rw [hc]; rfl
  · rw [e] at hc
    exact tot_heap hc hr
/-- What First answers. -/
def FP (U : List Int) (n : Int) (B : Nat) (w : World) (e : Ending) (w' : World) : Prop := ∃ v, e = .returned v ∧ Mid w' B 3 1 v (U.take n.toNat).length (ks .i64 (U.take n.toNat)) ∧ Below B w w'
theorem set0 {H : List El} {e : El} (h0 : 0 < H.length) : ∃ r, H = H.getD 0 dE :: r ∧ H.set 0 e = e :: r := by
  cases H with
  | nil => simp at h0
  | cons a r => exact ⟨r, rfl, rfl⟩
theorem nextR {R : List Int} {x : Int} (h : R = [] ∨ R.getLastD 0 ≠ x) : R ++ [x] = if R = [] ∨ R.getLastD 0 ≠ x then R ++ [x] else R := by rw [if_pos h]
theorem sameR {R : List Int} {x : Int} (h : ¬ (R = [] ∨ R.getLastD 0 ≠ x)) : R = if R = [] ∨ R.getLastD 0 ≠ x then R ++ [x] else R := by rw [if_neg h]
theorem lastD_get {R : List Int} (h : R ≠ []) : R.getD (R.length - 1) 0 = R.getLastD 0 := by
  rw [List.getD_eq_getElem?_getD, ← List.getLast?_eq_getElem?, List.getLastD_eq_getLast?]
theorem Mid.lower {w : World} {B B' n : Nat} {t : TypeId} {v : Value} {xs : List Value} (h : Mid w B t 1 v n xs) (hb : B' ≤ B) : Mid w B' t 1 v n xs := by
  refine ⟨h.1, ?_⟩
  rcases h.2 with h' | ⟨g, off, cap, cur, hv, hg, rest⟩
  · exact .inl h'
  · exact .inr ⟨g, off, cap, cur, hv, by omega, rest⟩
set_option maxRecDepth 100000 in
set_option maxHeartbeats 6400000 in
theorem first_any (n : Int) (A : Option Addr) (nn c : Nat) (ls : List Ar) (w : World) (h : LL w w.heap.size A nn c ls) (hn : nn ≤ 100) (hU9 : (uni (ls.map Ar.l)).length ≤ 100000) :
    Calls Try.prog 13 #[.int .i64 n, .slice A nn c] w (FP (uni (ls.map Ar.l)) n w.heap.size w) := by
  obtain ⟨i0, hi0, hz0, hz1, hz2⟩ := info_parts infoI
  obtain ⟨U, hU⟩ : ∃ U, U = uni (ls.map Ar.l) := ⟨_, rfl⟩
  have HUS : Hid (SortedI U) := Lib.hid (by rw [hU]; exact uni_sorted _)
  have HUH : Hid (∀ y, y ∈ U ↔ inH (els ls) y) := Lib.hid (fun y => by rw [hU, uni_mem, els_inH h.2.2.2.2])
  rw [← hU] at hU9 ⊢
  have HU9 := Lib.hid hU9
  have HLL := Lib.hid h
  obtain ⟨B, hB⟩ : ∃ B, B = w.heap.size := ⟨_, rfl⟩
  have HB := Lib.hid hB
  rw [← hB]
  clear h hU hU9 hB
  go_enter Try.func13, Try.ntmps13
  go_wp2_with (first
    | (go_at_call 20; refine (heads_any A nn c ls _ HLL.out hn).mono ?_
       rintro e w1 ⟨v1, H1, rfl, hhv, hp1, hb1⟩
       have HHV := Lib.hid hhv
       have HP1 := Lib.hid hp1
       have HB1 := Lib.hid hb1
       have hform : ∃ X m cx, v1 = .slice X m cx := (by
         rcases hhv with ⟨e, _⟩ | ⟨g, cx, e, _⟩
         · exact ⟨_, _, _, e⟩
         · exact ⟨_, _, _, e⟩)
       obtain ⟨X, m, cx, hv1⟩ := hform
       subst hv1
       clear hhv hp1 hb1)
    | fail)
  obtain ⟨P, hP⟩ : ∃ P, P = w1.heap.size := ⟨_, rfl⟩
  have HPP := Lib.hid hP
  have HI0 : Hid (FS U n B P w (w1.alloc (.cells #[.slice X m cx] 37)) [] (.slice none 0 0) H1 (.slice X m cx)) := Lib.hid (by
    have hsz := HB1.out.size
    have hBP : B ≤ P := by rw [HB.out, hP]; exact hsz
    refine ⟨by rw [hP]; exact cell_of_row _ _ 0 #[.slice X m cx] 37 (0, 0) (heap_alloc_new w1 _), by rw [hP]; exact (Blk.new w1 37 #[.slice X m cx]).frozen 0, ?_, Mid.nil _ _ _ _, ?_, by rw [hP]; simp, ?_, by simp, ?_⟩
    · rcases HHV.out with ⟨e, e2⟩ | ⟨g, c', e, q1, q2, q3, q4, q5, q6⟩
      · exact .inl ⟨e, e2⟩
      · refine .inr ⟨g, c', e, q1, by rw [HB.out]; exact q3, by rw [hP]; exact q4, ?_, q6⟩
        rw [HB.out]
        exact q5.far (Below.heap_alloc _ _ _ q4) (below_alloc _ _ |>.mono hsz)
    · rw [HB.out]; exact HB1.out.trans ((below_alloc _ _).mono hsz)
    · exact ⟨List.Pairwise.nil, fun y => by rw [HUH.out, ← inH_perm HP1.out]; simp, by simp⟩
    · have h1 := HP1.out.length_eq
      have h2 := els_len ls
      have h3 := HLL.out.len
      omega)
  rw [← hP]
  clear hP HHV HP1
  go_loopw [5] (fun r wr => ∃ (R : List Int) (vR : Value) (H : List El) (hv : Value), r = vR ∧ Hid (FS U n B P w wr R vR H hv)) (fun _ w => tot P w)
  case atStart => exact ⟨_, _, _, _, rfl, HI0⟩
  case round =>
    clear HI0
    obtain ⟨R, vR, H, hv, rfl, HF⟩ := hrel
    obtain ⟨A6, c6, rfl⟩ := HF.out.row.form
    have hfree := HF.out.free
    have hPwr : P + 1 ≤ wr.heap.size := HF.out.lt
    have hBP : B ≤ P := by have := HB1.out.size; rw [HB.out, HPP.out]; exact this
    have HBEL := Lib.hid HF.out.below
    have HKFI := Lib.hid HF.out.fi
    have hend : (H = [] ∨ ¬ (R.length : Int) < n) → FP U n B w (.returned (Value.slice A6 R.length c6)) wr := fun he => by
      have hR := HF.out.result HUS.out he
      refine ⟨_, rfl, ?_, HBEL.out⟩
      rw [← hR]
      have := HF.out.row
      exact this.lower (by omega)
    have HEND := Lib.hid hend
    clear hend
    rcases HF.out.heap with ⟨hv0, hH⟩ | ⟨g, cg, hv1, hqc0, hBg, hgP, hrow, hheap⟩
    · have hcell := HF.out.cell
      rw [hv0] at hcell
      have HH := Lib.hid hH
      clear hH
      go_wp2
      go_ret
      exact HEND.out (.inl HH.out)
    · have hcell := HF.out.cell
      rw [hv1] at hcell
      have HRW := Lib.hid hrow
      have HHEAP := Lib.hid hheap
      clear hrow hheap
      by_cases hq0 : H.length = 0
      · rw [hq0] at hcell
        have HH : Hid (H = []) := Lib.hid (List.eq_nil_of_length_eq_zero hq0)
        clear hq0 hqc0 hv1
        go_wp2
        go_ret
        exact HEND.out (.inl HH.out)
      · obtain ⟨q1, hq1⟩ : ∃ q1, H.length = q1 + 1 := ⟨H.length - 1, by omega⟩
        have HQ := Lib.hid hq1
        have hqc : q1 + 1 ≤ cg := by omega
        have hq9 : q1 + 1 < 1000000 := by have := HF.out.few; omega
        have hqf : q1 + 1 ≤ 100 := by have := HF.out.few; omega
        rw [hq1] at hcell
        have HTOT : Hid (tot P wr = sumN H) := Lib.hid (tot_heap (by rw [hq1]; exact hcell) HRW.out)
        clear hq0 hq1 hqc0 hv1
        have hqpos : (0 : Int) < ((q1 + 1 : Nat) : Int) := by omega
        by_cases hlt : (R.length : Int) < n
        · have HMANY0 : Hid (R.length ≤ n.toNat ∧ R.length < n.toNat) := Lib.hid ⟨HF.out.many, by omega⟩
          have hm9 : R.length ≤ 100000 := by
            have h1 := congrArg List.length (FI.take HUS.out HF.out.fi)
            rw [List.length_take] at h1
            have := HU9.out
            omega
          have hPg : P ≠ g := by omega
          have HNE : Hid (H ≠ []) := Lib.hid (by intro e; have := HQ.out; rw [e] at this; simp at this)
          have hok := HRW.out.ok 0 (by rw [HQ.out]; omega)
          have hg0 := HRW.out.cell 0 (by rw [HQ.out]; omega)
          have hgf0 := HRW.out.free 0 (by rw [HQ.out]; omega)
          have HOKS : Hid (∀ e ∈ H, e.l ≠ []) := Lib.hid (fun e he => by
            obtain ⟨i, hi, rfl⟩ := List.mem_iff_getElem.1 he
            have := HRW.out.ok i hi
            rw [List.getD_eq_getElem?_getD, List.getElem?_eq_getElem hi] at this
            obtain ⟨r, hr⟩ := EOk.cons this
            intro h0
            simp only [Option.getD_some] at hr
            rw [h0] at hr; cases hr)
          have HMIN0 := Lib.hid (heap_min HHEAP.out (by rw [HQ.out]; omega) HOKS.out)
          obtain ⟨x, hx⟩ : ∃ x, x = kk H 0 := ⟨_, rfl⟩
          have hfirst := hok.first
          have hke : (H.getD 0 dE).k = x := hx.symm
          rw [hke] at hfirst
          have hcons := hok.cons
          rw [hke] at hcons
          have HX := Lib.hid hx
          have HMIN : Hid (∀ y, inH H y → x ≤ y) := Lib.hid (by rw [hx]; exact HMIN0.out.1)
          have HIN : Hid (inH H x) := Lib.hid (by rw [hx]; exact HMIN0.out.2)
          have HTL : Hid ((H.getD 0 dE).l ≠ []) := Lib.hid (by obtain ⟨r, hr⟩ := hcons; rw [hr]; simp)
          obtain ⟨top, htop⟩ : ∃ t, t = H.getD 0 dE := ⟨_, rfl⟩
          rw [← htop] at hok hg0 hfirst hcons
          obtain ⟨ead, en, ec, el⟩ := top
          have HTOP : Hid (H.getD 0 dE = ⟨ead, en, ec, el⟩) := Lib.hid htop.symm
          have HEL : Hid ((H.getD 0 dE).l = el) := Lib.hid (by rw [← htop])
          simp only [El.v] at hg0
          simp only at hfirst hcons
          have hen : 0 < en := hok.1
          have HSE0 : Hid (SI wr B (some ead) en ec el) := Lib.hid hok.2
          have HLEN : Hid (el.length = en) := Lib.hid hok.2.len
          obtain ⟨rr, hrr⟩ := hcons
          have HCONS := Lib.hid hrr
          clear hx hke htop hok hrr HMIN0
          have HROW2 := Lib.hid HF.out.row
          obtain ⟨m6, hm6⟩ : ∃ m6, m6 = R.length := ⟨_, rfl⟩
          have HM6 := Lib.hid hm6
          have HROW : Hid (Mid wr (P + 1) 3 1 (.slice A6 m6 c6) m6 (ks .i64 R)) := Lib.hid (by rw [hm6]; exact HF.out.row)
          rw [← hm6] at hlt hm9 HROW2 ⊢
          clear hm6 HF
          by_cases h0 : m6 = 0
          · subst h0
            have HC : Hid (R = [] ∨ R.getLastD 0 ≠ x) := Lib.hid (.inl (List.eq_nil_of_length_eq_zero HM6.out.symm))
            have HNX := Lib.hid (nextR HC.out)
            have HMANY : Hid ((R ++ [x]).length ≤ n.toNat) := Lib.hid (by rw [List.length_append]; exact HMANY0.out.2)
            by_cases hadv : adv el = []
            · have HADV := Lib.hid hadv
              clear hadv
              go_wp2_with (first
                | (refine wpList_append_mid rfl (.tmp 38) (.tmp 40) 22 rfl (P + 1) 3 i0 _ 1 8 Try.underlying22 hi0 hz0 hz1 hz2 rfl (by omega) (.slice A6 (0) c6) (0) _ rfl (HROW.out.same fun g hg => Below.heap_alloc _ _ g (HROW.out.lt g hg).2) ⟨_, 0, none⟩ 1 1 [.int .i64 x] rfl rfl (World.news_of_block (cs := #[.int .i64 x]) (t := 3) (fr := (0, 0)) (heap_alloc_new _ _)) (by simp [Value.oneCell']) (by unfold maxLen; omega) (by omega) (by simp; omega) ?_
                   intro v' w3 hmm hran
                   have HBW : Hid (Below (P + 1) wr w3) := Lib.hid ((Below.refl _ _).grown hran.alloc.grown hPwr (fun g hg => (HROW.out.lt g hg).1))
                   have hc3 : w3.cell? ⟨P, 0, none⟩ = some (.slice (some ⟨g, 0, none⟩) (q1 + 1) cg) := (HBW.out.cell (by simp)).trans hcell
                   have hf3 : w3.frozen? ⟨P, 0, none⟩ = false := (HBW.out.frozen (by simp)).trans hfree
                   have hr3 : Row g B H w3 := HRW.out.far (HBW.out.block g (by omega)) (HBW.out.mono (by omega))
                   have HCE := Lib.hid hc3
                   have HFE := Lib.hid hf3
                   have HRE := Lib.hid hr3
                   have hg3 := hr3.cell 0 (by rw [HQ.out]; omega)
                   rw [HTOP.out] at hg3
                   simp only [El.v] at hg3
                   have hgf3 := hr3.free 0 (by rw [HQ.out]; omega)
                   have HSE : Hid (SI w3 B (some ead) en ec el) := Lib.hid (HSE0.out.below (HBW.out.mono (by omega)))
                   have HBE : Hid (Below B w w3) := Lib.hid (HBEL.out.trans (HBW.out.mono (by omega)))
                   have HLT : Hid (P < w3.heap.size) := Lib.hid (by have := HBW.out.size; omega)
                   obtain ⟨A8, c8, hv8⟩ := hmm.form
                   subst hv8
                   have HRX : Hid (Mid w3 (P + 1) 3 1 (.slice A8 ((0) + 1) c8) (R ++ [x]).length (ks .i64 (R ++ [x]))) := Lib.hid (by rw [List.length_append, ← HM6.out, ks_snoc]; exact hmm)
                   clear hmm hran hr3)
                | (go_at_call 21; refine (adv_any B (some ead) en ec el _ HSE.out).mono ?_
                   rintro e w4 ⟨A9, n9, c9, rfl, hs9, hw4⟩
                   rw [hw4]
                   have hl9 : n9 = (adv el).length := hs9.len.symm
                   rw [HADV.out] at hl9
                   obtain rfl : n9 = 0 := hl9
                   clear hw4 hs9)
                | (go_at_call 23; refine (hpop_any P g B q1 cg H _ HQ.out hq9 hqc hPg hBg HCE.out HFE.out HRE.out).mono ?_
                   rintro e w6 ⟨⟨vv, rfl⟩, w5, hr5, ho5, rfl⟩
                   have HR5 := Lib.hid hr5
                   have HO5 := Lib.hid ho5
                   clear hr5 ho5)
                | fail)
              have HFS : Hid (FS U n B P w (w5.setCell ⟨P, 0, none⟩ (.slice (some ⟨g, 0, none⟩) q1 cg)) (R ++ [x]) (.slice A8 (0 + 1) c8) (popF H) (.slice (some ⟨g, 0, none⟩) q1 cg)) := Lib.hid (by
                have hpl : (popF H).length = q1 := by rw [popF_len H HNE.out, HQ.out]; rfl
                have hpe : popF H = (downF (swp H 0 q1) 0 q1).take q1 := by unfold popF; rw [HQ.out]; rfl
                have hbel5 : Below B w w5 := (HBE.out).trans (only_below HO5.out hBg)
                have hcP : w5.cell? ⟨P, 0, none⟩ = some (.slice (some ⟨g, 0, none⟩) (q1 + 1) cg) := (HO5.out.cell hPg).trans HCE.out
                have hBP : B ≤ P := by omega
                refine ⟨World.cell?_setCell_same _ _ _ hcP, by rw [World.frozen?_setCell]; exact (World.frozen?_of_block (HO5.out.block P hPg)).trans HFE.out, .inr ⟨g, cg, by rw [hpl], by rw [hpl]; omega, hBg, hgP, ?_, by rw [hpl]; have := popF_heaped H HHEAP.out HNE.out; rw [hpl] at this; exact this⟩, ?_, hbel5.setCell hBP _, ?_, ?_, HMANY.out, by rw [hpl]; omega⟩
                · rw [hpe]
                  exact ((HR5.out.take q1).far (Below.heap_setCell _ _ _ _ (Ne.symm hPg)) ((Below.refl _ _).setCell hBP _))
                · refine (HRX.out).same fun k hk => ?_
                  have hk1 := ((HRX.out).lt k hk).1
                  exact (Below.heap_setCell _ _ _ _ (by simp; omega)).trans (HO5.out.block k (by omega))
                · have := HLT.out; rw [← HO5.out.size] at this; simpa using this
                · exact FI.next HKFI.out HMIN.out HIN.out (fun y => by rw [HX.out]; exact top_gone (by rw [HQ.out]; omega) (popF_perm H HNE.out) HTL.out (by rw [HEL.out]; exact HADV.out) y) HNX.out)
              have HME : Hid (tot P (w5.setCell ⟨P, 0, none⟩ (.slice (some ⟨g, 0, none⟩) q1 cg)) < tot P wr) := Lib.hid (by
                rw [HFS.out.tot_eq, HTOT.out, sumN_perm (popF_perm H HNE.out)]
                have e : (H.getD 0 dE).n = en := by rw [HTOP.out]
                rw [sumN, e]; omega)
              clear HR5 HO5
              go_roundw
              case rel => exact ⟨_, _, _, _, rfl, HFS⟩
              case measure => exact HME.out
            · have HADV := Lib.hid hadv
              clear hadv
              go_wp2_with (first
                | (refine wpList_append_mid rfl (.tmp 38) (.tmp 40) 22 rfl (P + 1) 3 i0 _ 1 8 Try.underlying22 hi0 hz0 hz1 hz2 rfl (by omega) (.slice A6 (0) c6) (0) _ rfl (HROW.out.same fun g hg => Below.heap_alloc _ _ g (HROW.out.lt g hg).2) ⟨_, 0, none⟩ 1 1 [.int .i64 x] rfl rfl (World.news_of_block (cs := #[.int .i64 x]) (t := 3) (fr := (0, 0)) (heap_alloc_new _ _)) (by simp [Value.oneCell']) (by unfold maxLen; omega) (by omega) (by simp; omega) ?_
                   intro v' w3 hmm hran
                   have HBW : Hid (Below (P + 1) wr w3) := Lib.hid ((Below.refl _ _).grown hran.alloc.grown hPwr (fun g hg => (HROW.out.lt g hg).1))
                   have hc3 : w3.cell? ⟨P, 0, none⟩ = some (.slice (some ⟨g, 0, none⟩) (q1 + 1) cg) := (HBW.out.cell (by simp)).trans hcell
                   have hf3 : w3.frozen? ⟨P, 0, none⟩ = false := (HBW.out.frozen (by simp)).trans hfree
                   have hr3 : Row g B H w3 := HRW.out.far (HBW.out.block g (by omega)) (HBW.out.mono (by omega))
                   have HCE := Lib.hid hc3
                   have HFE := Lib.hid hf3
                   have HRE := Lib.hid hr3
                   have hg3 := hr3.cell 0 (by rw [HQ.out]; omega)
                   rw [HTOP.out] at hg3
                   simp only [El.v] at hg3
                   have hgf3 := hr3.free 0 (by rw [HQ.out]; omega)
                   have HSE : Hid (SI w3 B (some ead) en ec el) := Lib.hid (HSE0.out.below (HBW.out.mono (by omega)))
                   have HBE : Hid (Below B w w3) := Lib.hid (HBEL.out.trans (HBW.out.mono (by omega)))
                   have HLT : Hid (P < w3.heap.size) := Lib.hid (by have := HBW.out.size; omega)
                   obtain ⟨A8, c8, hv8⟩ := hmm.form
                   subst hv8
                   have HRX : Hid (Mid w3 (P + 1) 3 1 (.slice A8 ((0) + 1) c8) (R ++ [x]).length (ks .i64 (R ++ [x]))) := Lib.hid (by rw [List.length_append, ← HM6.out, ks_snoc]; exact hmm)
                   clear hmm hran hr3)
                | (go_at_call 21; refine (adv_any B (some ead) en ec el _ HSE.out).mono ?_
                   rintro e w4 ⟨A9, n9, c9, rfl, hs9, hw4⟩
                   rw [hw4]
                   have hl9 : n9 = (adv el).length := hs9.len.symm
                   have hp9 : 0 < n9 := (by rw [hl9]; exact List.length_pos_iff.2 HADV.out)
                   obtain ⟨ad9, _, _, rfl, _, _⟩ := hs9.head hp9
                   have HS9 := Lib.hid hs9
                   have HL9 : Hid (n9 < en) := Lib.hid (adv_less hs9.len HLEN.out HCONS.out)
                   clear hw4 hs9 hl9)
                | (go_at_call 22; refine (fix0 P g B (q1 + 1) cg (H.set 0 ⟨ad9, n9, c9, adv el⟩) _ (by rw [List.length_set]; exact HQ.out) hq9 hPg hBg ((far_cell hPg _).trans HCE.out) ((HRE.out).set hBg 0 ⟨ad9, n9, c9, adv el⟩ (by rw [HQ.out]; omega) ⟨hp9, HS9.out⟩)).mono ?_
                   rintro e w6 ⟨rfl, hr6, ho6⟩
                   have HR6 := Lib.hid hr6
                   have HO6 := Lib.hid ho6
                   clear hr6 ho6)
                | fail)
              have HSZ : Hid ((downF (H.set 0 ⟨ad9, n9, c9, adv el⟩) 0 (q1 + 1)).Perm (H.set 0 ⟨ad9, n9, c9, adv el⟩)) := Lib.hid (downF_perm (q1 + 1) (q1 + 1) 0 _ (by omega) (by rw [List.length_set, HQ.out]; exact Nat.le_refl _))
              have HFS : Hid (FS U n B P w w6 (R ++ [x]) (.slice A8 (0 + 1) c8) (downF (H.set 0 ⟨ad9, n9, c9, adv el⟩) 0 (q1 + 1)) (.slice (some ⟨g, 0, none⟩) (q1 + 1) cg)) := Lib.hid (by
                have hpl : (downF (H.set 0 ⟨ad9, n9, c9, adv el⟩) 0 (q1 + 1)).length = q1 + 1 := by rw [HSZ.out.length_eq, List.length_set, HQ.out]
                have hbs : Below B w3 (w3.setCell ⟨g, 0, none⟩ (.slice (some ad9) n9 c9)) := (Below.refl _ _).setCell hBg _
                have hcP : w6.cell? ⟨P, 0, none⟩ = some (.slice (some ⟨g, 0, none⟩) (q1 + 1) cg) := (HO6.out.cell hPg).trans ((far_cell hPg _).trans HCE.out)
                have hfP : w6.frozen? ⟨P, 0, none⟩ = false := (World.frozen?_of_block (HO6.out.block P hPg)).trans (by rw [World.frozen?_setCell]; exact HFE.out)
                refine ⟨hcP, hfP, .inr ⟨g, cg, by rw [hpl], by rw [hpl]; exact hqc, hBg, hgP, HR6.out, ?_⟩, ?_, ((HBE.out).trans hbs).trans (only_below HO6.out hBg), ?_, ?_, HMANY.out, by rw [hpl]; omega⟩
                · rw [hpl]
                  have := fix_heaped (e := ⟨ad9, n9, c9, adv el⟩) HHEAP.out (by rw [HQ.out]; omega)
                  rw [HQ.out] at this; exact this
                · refine (HRX.out).same fun k hk => ?_
                  have hk1 := ((HRX.out).lt k hk).1
                  exact (HO6.out.block k (by omega)).trans (Below.heap_setCell _ _ _ _ (by simp; omega))
                · have := HLT.out; rw [HO6.out.size]; simpa using this
                · exact FI.next HKFI.out HMIN.out HIN.out (fun y => by rw [HX.out]; exact top_split (by rw [HQ.out]; omega) HSZ.out HTL.out (by rw [HEL.out]) y) HNX.out)
              have HME : Hid (tot P w6 < tot P wr) := Lib.hid (by
                rw [HFS.out.tot_eq, HTOT.out, sumN_perm HSZ.out]
                obtain ⟨r, hr1, hr2⟩ := set0 (e := ⟨ad9, n9, c9, adv el⟩) (H := H) (by rw [HQ.out]; omega)
                rw [hr2]
                conv => rhs; rw [hr1]
                have e : (H.getD 0 dE).n = en := by rw [HTOP.out]
                rw [sumN, sumN, e]
                have := HL9.out
                simp only
                omega)
              clear HR6 HO6 HSZ
              go_roundw
              case rel => exact ⟨_, _, _, _, rfl, HFS⟩
              case measure => exact HME.out
          · obtain ⟨m7, rfl⟩ : ∃ m7, m6 = m7 + 1 := ⟨m6 - 1, by omega⟩
            have hne : ¬ (((m7 + 1 : Nat) : Int) = 0) := by omega
            have HRNE : Hid (R ≠ []) := Lib.hid (by intro e; have := HM6.out; rw [e] at this; simp at this)
            obtain ⟨ad6, rfl, hl6⟩ := HROW.out.reads.kat (k := m7) (by omega)
            have hlast : R.getD m7 0 = R.getLastD 0 := by have h1 := lastD_get HRNE.out; rw [← HM6.out] at h1; exact h1
            rw [hlast] at hl6
            clear hlast
            by_cases hxl : R.getLastD 0 = x
            · have HC : Hid (¬ (R = [] ∨ R.getLastD 0 ≠ x)) := Lib.hid (by rw [not_or, Classical.not_not]; exact ⟨HRNE.out, hxl⟩)
              rw [hxl] at hl6
              clear hxl
              have HNX := Lib.hid (sameR HC.out)
              have HMANY : Hid (R.length ≤ n.toNat) := Lib.hid HMANY0.out.1
              have HCE := Lib.hid hcell
              have HFE := Lib.hid hfree
              have HRE := HRW
              have HSE := HSE0
              have HBE := HBEL
              have HLT : Hid (P < wr.heap.size) := Lib.hid (by omega)
              have HRX : Hid (Mid wr (P + 1) 3 1 (.slice (some ad6) (m7 + 1) c6) R.length (ks .i64 R)) := Lib.hid (by rw [← HM6.out]; exact HROW2.out)
              by_cases hadv : adv el = []
              · have HADV := Lib.hid hadv
                clear hadv
                go_wp2_with (first
                  | (go_at_call 21; refine (adv_any B (some ead) en ec el _ HSE.out).mono ?_
                     rintro e w4 ⟨A9, n9, c9, rfl, hs9, hw4⟩
                     rw [hw4]
                     have hl9 : n9 = (adv el).length := hs9.len.symm
                     rw [HADV.out] at hl9
                     obtain rfl : n9 = 0 := hl9
                     clear hw4 hs9)
                  | (go_at_call 23; refine (hpop_any P g B q1 cg H _ HQ.out hq9 hqc hPg hBg HCE.out HFE.out HRE.out).mono ?_
                     rintro e w6 ⟨⟨vv, rfl⟩, w5, hr5, ho5, rfl⟩
                     have HR5 := Lib.hid hr5
                     have HO5 := Lib.hid ho5
                     clear hr5 ho5)
                  | fail)
                have HFS : Hid (FS U n B P w (w5.setCell ⟨P, 0, none⟩ (.slice (some ⟨g, 0, none⟩) q1 cg)) (R) (.slice (some ad6) (m7 + 1) c6) (popF H) (.slice (some ⟨g, 0, none⟩) q1 cg)) := Lib.hid (by
                  have hpl : (popF H).length = q1 := by rw [popF_len H HNE.out, HQ.out]; rfl
                  have hpe : popF H = (downF (swp H 0 q1) 0 q1).take q1 := by unfold popF; rw [HQ.out]; rfl
                  have hbel5 : Below B w w5 := (HBE.out).trans (only_below HO5.out hBg)
                  have hcP : w5.cell? ⟨P, 0, none⟩ = some (.slice (some ⟨g, 0, none⟩) (q1 + 1) cg) := (HO5.out.cell hPg).trans HCE.out
                  have hBP : B ≤ P := by omega
                  refine ⟨World.cell?_setCell_same _ _ _ hcP, by rw [World.frozen?_setCell]; exact (World.frozen?_of_block (HO5.out.block P hPg)).trans HFE.out, .inr ⟨g, cg, by rw [hpl], by rw [hpl]; omega, hBg, hgP, ?_, by rw [hpl]; have := popF_heaped H HHEAP.out HNE.out; rw [hpl] at this; exact this⟩, ?_, hbel5.setCell hBP _, ?_, ?_, HMANY.out, by rw [hpl]; omega⟩
                  · rw [hpe]
                    exact ((HR5.out.take q1).far (Below.heap_setCell _ _ _ _ (Ne.symm hPg)) ((Below.refl _ _).setCell hBP _))
                  · refine (HRX.out).same fun k hk => ?_
                    have hk1 := ((HRX.out).lt k hk).1
                    exact (Below.heap_setCell _ _ _ _ (by simp; omega)).trans (HO5.out.block k (by omega))
                  · have := HLT.out; rw [← HO5.out.size] at this; simpa using this
                  · exact FI.next HKFI.out HMIN.out HIN.out (fun y => by rw [HX.out]; exact top_gone (by rw [HQ.out]; omega) (popF_perm H HNE.out) HTL.out (by rw [HEL.out]; exact HADV.out) y) HNX.out)
                have HME : Hid (tot P (w5.setCell ⟨P, 0, none⟩ (.slice (some ⟨g, 0, none⟩) q1 cg)) < tot P wr) := Lib.hid (by
                  rw [HFS.out.tot_eq, HTOT.out, sumN_perm (popF_perm H HNE.out)]
                  have e : (H.getD 0 dE).n = en := by rw [HTOP.out]
                  rw [sumN, e]; omega)
                clear HR5 HO5
                go_roundw
                case rel => exact ⟨_, _, _, _, rfl, HFS⟩
                case measure => exact HME.out
              · have HADV := Lib.hid hadv
                clear hadv
                go_wp2_with (first
                  | (go_at_call 21; refine (adv_any B (some ead) en ec el _ HSE.out).mono ?_
                     rintro e w4 ⟨A9, n9, c9, rfl, hs9, hw4⟩
                     rw [hw4]
                     have hl9 : n9 = (adv el).length := hs9.len.symm
                     have hp9 : 0 < n9 := (by rw [hl9]; exact List.length_pos_iff.2 HADV.out)
                     obtain ⟨ad9, _, _, rfl, _, _⟩ := hs9.head hp9
                     have HS9 := Lib.hid hs9
                     have HL9 : Hid (n9 < en) := Lib.hid (adv_less hs9.len HLEN.out HCONS.out)
                     clear hw4 hs9 hl9)
                  | (go_at_call 22; refine (fix0 P g B (q1 + 1) cg (H.set 0 ⟨ad9, n9, c9, adv el⟩) _ (by rw [List.length_set]; exact HQ.out) hq9 hPg hBg ((far_cell hPg _).trans HCE.out) ((HRE.out).set hBg 0 ⟨ad9, n9, c9, adv el⟩ (by rw [HQ.out]; omega) ⟨hp9, HS9.out⟩)).mono ?_
                     rintro e w6 ⟨rfl, hr6, ho6⟩
                     have HR6 := Lib.hid hr6
                     have HO6 := Lib.hid ho6
                     clear hr6 ho6)
                  | fail)
                have HSZ : Hid ((downF (H.set 0 ⟨ad9, n9, c9, adv el⟩) 0 (q1 + 1)).Perm (H.set 0 ⟨ad9, n9, c9, adv el⟩)) := Lib.hid (downF_perm (q1 + 1) (q1 + 1) 0 _ (by omega) (by rw [List.length_set, HQ.out]; exact Nat.le_refl _))
                have HFS : Hid (FS U n B P w w6 (R) (.slice (some ad6) (m7 + 1) c6) (downF (H.set 0 ⟨ad9, n9, c9, adv el⟩) 0 (q1 + 1)) (.slice (some ⟨g, 0, none⟩) (q1 + 1) cg)) := Lib.hid (by
                  have hpl : (downF (H.set 0 ⟨ad9, n9, c9, adv el⟩) 0 (q1 + 1)).length = q1 + 1 := by rw [HSZ.out.length_eq, List.length_set, HQ.out]
                  have hbs : Below B wr (wr.setCell ⟨g, 0, none⟩ (.slice (some ad9) n9 c9)) := (Below.refl _ _).setCell hBg _
                  have hcP : w6.cell? ⟨P, 0, none⟩ = some (.slice (some ⟨g, 0, none⟩) (q1 + 1) cg) := (HO6.out.cell hPg).trans ((far_cell hPg _).trans HCE.out)
                  have hfP : w6.frozen? ⟨P, 0, none⟩ = false := (World.frozen?_of_block (HO6.out.block P hPg)).trans (by rw [World.frozen?_setCell]; exact HFE.out)
                  refine ⟨hcP, hfP, .inr ⟨g, cg, by rw [hpl], by rw [hpl]; exact hqc, hBg, hgP, HR6.out, ?_⟩, ?_, ((HBE.out).trans hbs).trans (only_below HO6.out hBg), ?_, ?_, HMANY.out, by rw [hpl]; omega⟩
                  · rw [hpl]
                    have := fix_heaped (e := ⟨ad9, n9, c9, adv el⟩) HHEAP.out (by rw [HQ.out]; omega)
                    rw [HQ.out] at this; exact this
                  · refine (HRX.out).same fun k hk => ?_
                    have hk1 := ((HRX.out).lt k hk).1
                    exact (HO6.out.block k (by omega)).trans (Below.heap_setCell _ _ _ _ (by simp; omega))
                  · have := HLT.out; rw [HO6.out.size]; simpa using this
                  · exact FI.next HKFI.out HMIN.out HIN.out (fun y => by rw [HX.out]; exact top_split (by rw [HQ.out]; omega) HSZ.out HTL.out (by rw [HEL.out]) y) HNX.out)
                have HME : Hid (tot P w6 < tot P wr) := Lib.hid (by
                  rw [HFS.out.tot_eq, HTOT.out, sumN_perm HSZ.out]
                  obtain ⟨r, hr1, hr2⟩ := set0 (e := ⟨ad9, n9, c9, adv el⟩) (H := H) (by rw [HQ.out]; omega)
                  rw [hr2]
                  conv => rhs; rw [hr1]
                  have e : (H.getD 0 dE).n = en := by rw [HTOP.out]
                  rw [sumN, sumN, e]
                  have := HL9.out
                  simp only
                  omega)
                clear HR6 HO6 HSZ
                go_roundw
                case rel => exact ⟨_, _, _, _, rfl, HFS⟩
                case measure => exact HME.out
            · have HC : Hid (R = [] ∨ R.getLastD 0 ≠ x) := Lib.hid (.inr hxl)
              have HNX := Lib.hid (nextR HC.out)
              have HMANY : Hid ((R ++ [x]).length ≤ n.toNat) := Lib.hid (by rw [List.length_append]; exact HMANY0.out.2)
              obtain ⟨y, hy⟩ : ∃ y, y = R.getLastD 0 := ⟨_, rfl⟩
              rw [← hy] at hl6 hxl
              clear hy
              have hne2 : (y != x) = true := by simpa using hxl
              by_cases hadv : adv el = []
              · have HADV := Lib.hid hadv
                clear hadv
                go_wp2_with (first
                  | (refine wpList_append_mid rfl (.tmp 38) (.tmp 40) 22 rfl (P + 1) 3 i0 _ 1 8 Try.underlying22 hi0 hz0 hz1 hz2 rfl (by omega) (.slice (some ad6) (m7 + 1) c6) (m7 + 1) _ rfl (HROW.out.same fun g hg => Below.heap_alloc _ _ g (HROW.out.lt g hg).2) ⟨_, 0, none⟩ 1 1 [.int .i64 x] rfl rfl (World.news_of_block (cs := #[.int .i64 x]) (t := 3) (fr := (0, 0)) (heap_alloc_new _ _)) (by simp [Value.oneCell']) (by unfold maxLen; omega) (by omega) (by simp; omega) ?_
                     intro v' w3 hmm hran
                     have HBW : Hid (Below (P + 1) wr w3) := Lib.hid ((Below.refl _ _).grown hran.alloc.grown hPwr (fun g hg => (HROW.out.lt g hg).1))
                     have hc3 : w3.cell? ⟨P, 0, none⟩ = some (.slice (some ⟨g, 0, none⟩) (q1 + 1) cg) := (HBW.out.cell (by simp)).trans hcell
                     have hf3 : w3.frozen? ⟨P, 0, none⟩ = false := (HBW.out.frozen (by simp)).trans hfree
                     have hr3 : Row g B H w3 := HRW.out.far (HBW.out.block g (by omega)) (HBW.out.mono (by omega))
                     have HCE := Lib.hid hc3
                     have HFE := Lib.hid hf3
                     have HRE := Lib.hid hr3
                     have hg3 := hr3.cell 0 (by rw [HQ.out]; omega)
                     rw [HTOP.out] at hg3
                     simp only [El.v] at hg3
                     have hgf3 := hr3.free 0 (by rw [HQ.out]; omega)
                     have HSE : Hid (SI w3 B (some ead) en ec el) := Lib.hid (HSE0.out.below (HBW.out.mono (by omega)))
                     have HBE : Hid (Below B w w3) := Lib.hid (HBEL.out.trans (HBW.out.mono (by omega)))
                     have HLT : Hid (P < w3.heap.size) := Lib.hid (by have := HBW.out.size; omega)
                     obtain ⟨A8, c8, hv8⟩ := hmm.form
                     subst hv8
                     have HRX : Hid (Mid w3 (P + 1) 3 1 (.slice A8 ((m7 + 1) + 1) c8) (R ++ [x]).length (ks .i64 (R ++ [x]))) := Lib.hid (by rw [List.length_append, ← HM6.out, ks_snoc]; exact hmm)
                     clear hmm hran hr3)
                  | (go_at_call 21; refine (adv_any B (some ead) en ec el _ HSE.out).mono ?_
                     rintro e w4 ⟨A9, n9, c9, rfl, hs9, hw4⟩
                     rw [hw4]
                     have hl9 : n9 = (adv el).length := hs9.len.symm
                     rw [HADV.out] at hl9
                     obtain rfl : n9 = 0 := hl9
                     clear hw4 hs9)
                  | (go_at_call 23; refine (hpop_any P g B q1 cg H _ HQ.out hq9 hqc hPg hBg HCE.out HFE.out HRE.out).mono ?_
                     rintro e w6 ⟨⟨vv, rfl⟩, w5, hr5, ho5, rfl⟩
                     have HR5 := Lib.hid hr5
                     have HO5 := Lib.hid ho5
                     clear hr5 ho5)
                  | fail)
                have HFS : Hid (FS U n B P w (w5.setCell ⟨P, 0, none⟩ (.slice (some ⟨g, 0, none⟩) q1 cg)) (R ++ [x]) (.slice A8 (m7 + 1 + 1) c8) (popF H) (.slice (some ⟨g, 0, none⟩) q1 cg)) := Lib.hid (by
                  have hpl : (popF H).length = q1 := by rw [popF_len H HNE.out, HQ.out]; rfl
                  have hpe : popF H = (downF (swp H 0 q1) 0 q1).take q1 := by unfold popF; rw [HQ.out]; rfl
                  have hbel5 : Below B w w5 := (HBE.out).trans (only_below HO5.out hBg)
                  have hcP : w5.cell? ⟨P, 0, none⟩ = some (.slice (some ⟨g, 0, none⟩) (q1 + 1) cg) := (HO5.out.cell hPg).trans HCE.out
                  have hBP : B ≤ P := by omega
                  refine ⟨World.cell?_setCell_same _ _ _ hcP, by rw [World.frozen?_setCell]; exact (World.frozen?_of_block (HO5.out.block P hPg)).trans HFE.out, .inr ⟨g, cg, by rw [hpl], by rw [hpl]; omega, hBg, hgP, ?_, by rw [hpl]; have := popF_heaped H HHEAP.out HNE.out; rw [hpl] at this; exact this⟩, ?_, hbel5.setCell hBP _, ?_, ?_, HMANY.out, by rw [hpl]; omega⟩
                  · rw [hpe]
                    exact ((HR5.out.take q1).far (Below.heap_setCell _ _ _ _ (Ne.symm hPg)) ((Below.refl _ _).setCell hBP _))
                  · refine (HRX.out).same fun k hk => ?_
                    have hk1 := ((HRX.out).lt k hk).1
                    exact (Below.heap_setCell _ _ _ _ (by simp; omega)).trans (HO5.out.block k (by omega))
                  · have := HLT.out; rw [← HO5.out.size] at this; simpa using this
                  · exact FI.next HKFI.out HMIN.out HIN.out (fun y => by rw [HX.out]; exact top_gone (by rw [HQ.out]; omega) (popF_perm H HNE.out) HTL.out (by rw [HEL.out]; exact HADV.out) y) HNX.out)
                have HME : Hid (tot P (w5.setCell ⟨P, 0, none⟩ (.slice (some ⟨g, 0, none⟩) q1 cg)) < tot P wr) := Lib.hid (by
                  rw [HFS.out.tot_eq, HTOT.out, sumN_perm (popF_perm H HNE.out)]
                  have e : (H.getD 0 dE).n = en := by rw [HTOP.out]
                  rw [sumN, e]; omega)
                clear HR5 HO5
                go_roundw
                case rel => exact ⟨_, _, _, _, rfl, HFS⟩
                case measure => exact HME.out
              · have HADV := Lib.hid hadv
                clear hadv
                go_wp2_with (first
                  | (refine wpList_append_mid rfl (.tmp 38) (.tmp 40) 22 rfl (P + 1) 3 i0 _ 1 8 Try.underlying22 hi0 hz0 hz1 hz2 rfl (by omega) (.slice (some ad6) (m7 + 1) c6) (m7 + 1) _ rfl (HROW.out.same fun g hg => Below.heap_alloc _ _ g (HROW.out.lt g hg).2) ⟨_, 0, none⟩ 1 1 [.int .i64 x] rfl rfl (World.news_of_block (cs := #[.int .i64 x]) (t := 3) (fr := (0, 0)) (heap_alloc_new _ _)) (by simp [Value.oneCell']) (by unfold maxLen; omega) (by omega) (by simp; omega) ?_
                     intro v' w3 hmm hran
                     have HBW : Hid (Below (P + 1) wr w3) := Lib.hid ((Below.refl _ _).grown hran.alloc.grown hPwr (fun g hg => (HROW.out.lt g hg).1))
                     have hc3 : w3.cell? ⟨P, 0, none⟩ = some (.slice (some ⟨g, 0, none⟩) (q1 + 1) cg) := (HBW.out.cell (by simp)).trans hcell
                     have hf3 : w3.frozen? ⟨P, 0, none⟩ = false := (HBW.out.frozen (by simp)).trans hfree
                     have hr3 : Row g B H w3 := HRW.out.far (HBW.out.block g (by omega)) (HBW.out.mono (by omega))
                     have HCE := Lib.hid hc3
                     have HFE := Lib.hid hf3
                     have HRE := Lib.hid hr3
                     have hg3 := hr3.cell 0 (by rw [HQ.out]; omega)
                     rw [HTOP.out] at hg3
                     simp only [El.v] at hg3
                     have hgf3 := hr3.free 0 (by rw [HQ.out]; omega)
                     have HSE : Hid (SI w3 B (some ead) en ec el) := Lib.hid (HSE0.out.below (HBW.out.mono (by omega)))
                     have HBE : Hid (Below B w w3) := Lib.hid (HBEL.out.trans (HBW.out.mono (by omega)))
                     have HLT : Hid (P < w3.heap.size) := Lib.hid (by have := HBW.out.size; omega)
                     obtain ⟨A8, c8, hv8⟩ := hmm.form
                     subst hv8
                     have HRX : Hid (Mid w3 (P + 1) 3 1 (.slice A8 ((m7 + 1) + 1) c8) (R ++ [x]).length (ks .i64 (R ++ [x]))) := Lib.hid (by rw [List.length_append, ← HM6.out, ks_snoc]; exact hmm)
                     clear hmm hran hr3)
                  | (go_at_call 21; refine (adv_any B (some ead) en ec el _ HSE.out).mono ?_
                     rintro e w4 ⟨A9, n9, c9, rfl, hs9, hw4⟩
                     rw [hw4]
                     have hl9 : n9 = (adv el).length := hs9.len.symm
                     have hp9 : 0 < n9 := (by rw [hl9]; exact List.length_pos_iff.2 HADV.out)
                     obtain ⟨ad9, _, _, rfl, _, _⟩ := hs9.head hp9
                     have HS9 := Lib.hid hs9
                     have HL9 : Hid (n9 < en) := Lib.hid (adv_less hs9.len HLEN.out HCONS.out)
                     clear hw4 hs9 hl9)
                  | (go_at_call 22; refine (fix0 P g B (q1 + 1) cg (H.set 0 ⟨ad9, n9, c9, adv el⟩) _ (by rw [List.length_set]; exact HQ.out) hq9 hPg hBg ((far_cell hPg _).trans HCE.out) ((HRE.out).set hBg 0 ⟨ad9, n9, c9, adv el⟩ (by rw [HQ.out]; omega) ⟨hp9, HS9.out⟩)).mono ?_
                     rintro e w6 ⟨rfl, hr6, ho6⟩
                     have HR6 := Lib.hid hr6
                     have HO6 := Lib.hid ho6
                     clear hr6 ho6)
                  | fail)
                have HSZ : Hid ((downF (H.set 0 ⟨ad9, n9, c9, adv el⟩) 0 (q1 + 1)).Perm (H.set 0 ⟨ad9, n9, c9, adv el⟩)) := Lib.hid (downF_perm (q1 + 1) (q1 + 1) 0 _ (by omega) (by rw [List.length_set, HQ.out]; exact Nat.le_refl _))
                have HFS : Hid (FS U n B P w w6 (R ++ [x]) (.slice A8 (m7 + 1 + 1) c8) (downF (H.set 0 ⟨ad9, n9, c9, adv el⟩) 0 (q1 + 1)) (.slice (some ⟨g, 0, none⟩) (q1 + 1) cg)) := Lib.hid (by
                  have hpl : (downF (H.set 0 ⟨ad9, n9, c9, adv el⟩) 0 (q1 + 1)).length = q1 + 1 := by rw [HSZ.out.length_eq, List.length_set, HQ.out]
                  have hbs : Below B w3 (w3.setCell ⟨g, 0, none⟩ (.slice (some ad9) n9 c9)) := (Below.refl _ _).setCell hBg _
                  have hcP : w6.cell? ⟨P, 0, none⟩ = some (.slice (some ⟨g, 0, none⟩) (q1 + 1) cg) := (HO6.out.cell hPg).trans ((far_cell hPg _).trans HCE.out)
                  have hfP : w6.frozen? ⟨P, 0, none⟩ = false := (World.frozen?_of_block (HO6.out.block P hPg)).trans (by rw [World.frozen?_setCell]; exact HFE.out)
                  refine ⟨hcP, hfP, .inr ⟨g, cg, by rw [hpl], by rw [hpl]; exact hqc, hBg, hgP, HR6.out, ?_⟩, ?_, ((HBE.out).trans hbs).trans (only_below HO6.out hBg), ?_, ?_, HMANY.out, by rw [hpl]; omega⟩
                  · rw [hpl]
                    have := fix_heaped (e := ⟨ad9, n9, c9, adv el⟩) HHEAP.out (by rw [HQ.out]; omega)
                    rw [HQ.out] at this; exact this
                  · refine (HRX.out).same fun k hk => ?_
                    have hk1 := ((HRX.out).lt k hk).1
                    exact (HO6.out.block k (by omega)).trans (Below.heap_setCell _ _ _ _ (by simp; omega))
                  · have := HLT.out; rw [HO6.out.size]; simpa using this
                  · exact FI.next HKFI.out HMIN.out HIN.out (fun y => by rw [HX.out]; exact top_split (by rw [HQ.out]; omega) HSZ.out HTL.out (by rw [HEL.out]) y) HNX.out)
                have HME : Hid (tot P w6 < tot P wr) := Lib.hid (by
                  rw [HFS.out.tot_eq, HTOT.out, sumN_perm HSZ.out]
                  obtain ⟨r, hr1, hr2⟩ := set0 (e := ⟨ad9, n9, c9, adv el⟩) (H := H) (by rw [HQ.out]; omega)
                  rw [hr2]
                  conv => rhs; rw [hr1]
                  have e : (H.getD 0 dE).n = en := by rw [HTOP.out]
                  rw [sumN, sumN, e]
                  have := HL9.out
                  simp only
                  omega)
                clear HR6 HO6 HSZ
                go_roundw
                case rel => exact ⟨_, _, _, _, rfl, HFS⟩
                case measure => exact HME.out
        · go_wp2
          go_ret
          exact HEND.out (.inr hlt)
end Go.Proofs.Ythgjpdbajmfclaa
