/-
  The reference's Add; conditions: lengths.
-/
import Derived.Test.YtokjeglhmmijfaaPsv
namespace Go.Proofs.Ytokjeglhmmijfaa
open Go.RowKit Go.WideShapes Go.ChangeShapes
set_option linter.all false
theorem ks_snoc (l : List Nat) (y : Nat) : ks .i64 (nb (l ++ [y])) = ks .i64 (nb l) ++ [.int .i64 (y : Int)] := by rw [nb_append, ks_append]; rfl
def SX (_ : World) : Prop := True
set_option maxRecDepth 100000 in
theorem step_build0 {ops : Array Oper} {o : Oper} {a : Act} {w : World} {K : Act → World → Prop} {Q : Exit → Act → World → Prop} {E : Prop} (hgd : o.guard = none) (ho : o.op = .buildSlice 28 0 #[])
    (hK : K (a.put o.dst (.slice (some ⟨w.heap.size, 0, none⟩) 0 0)) (w.alloc (.cells #[] 3))) : if Region.wanted o (yielded ops a.tmps) = true then Oper.wp Try.prog o a w K Q else E := by
  have hw : Region.wanted o (yielded ops a.tmps) = true := by simp [Region.wanted, hgd]
  rw [if_pos hw]
  have hrun := run_build0 w
  unfold Oper.wp execOp
  simp only [ho, Array.map_empty, List.map_toArray, List.map_nil, Sem.run_bind, Sem.run_pure, Result.andThen_ok, hrun]
  exact hK
theorem take_succ' {l : List Nat} {j : Nat} (h : j < l.length) : l.take (j + 1) = l.take j ++ [l.getD j 0] := by
  rw [List.take_succ_eq_append_getElem h, List.getD_eq_getElem?_getD, List.getElem?_eq_getElem h]; rfl
set_option maxRecDepth 100000 in
set_option maxHeartbeats 6400000 in
theorem refAdd_any (A : Option Addr) (n c : Nat) (L : List (List Nat)) (ws : List Ar) (x : Int) (w : World) (h : LK .i64 w w.heap.size A n c ws) (hl : ws.map Ar.l = L.map nb) (hR : RL L) (hn : n ≤ 1000) (o : Bool) (ho : o = (decide (0 ≤ x ∧ x ≤ 1073741824) && !hasB x L.flatten)) (L2 : List (List Nat)) (hL2 : L2 = if o = true then addL x.toNat L else L) :
    Calls Try.prog 25 #[.slice A n c, .int .i64 x] w (RefR L2 o w) := by
  obtain ⟨i0, hi0, hz0, hz1, hz2⟩ := info_parts info28
  obtain ⟨i1, hi1, hy0, hy1, hy2⟩ := info_parts infoI
  have hLn : L.length = n := by rw [← maps_len hl]; exact h.len
  have hnc : n ≤ c := h.1
  have HK := Lib.hid h
  have HLL := Lib.hid hl
  have HR := Lib.hid hR
  have HLN := Lib.hid hLn
  have HO := Lib.hid ho
  have HL2 := Lib.hid hL2
  clear h hl ho hL2
  by_cases hx : 0 ≤ x ∧ x ≤ 1073741824
  rotate_left
  · obtain rfl : o = false := by rw [HO.out, decide_eq_false hx]; rfl
    obtain rfl : L2 = L := by rw [HL2.out]; rfl
    have hx2 : x < 0 ∨ ¬ x < 0 ∧ 1073741824 < x := by omega
    clear hx HL2 HO hLn hnc
    go_enter Try.func25, Try.ntmps25
    rcases hx2 with h1 | ⟨h1, h2⟩
    all_goals
      go_wp2_with (first
        | (go_at_call 40; refine (copied_any A n c L2 ws _ HK.out HLL.out (fun b hb => (HR.out.len b hb).2) (by omega)).mono ?_
           rintro e w1 hq
           obtain ⟨A1, c1, ws1, rfl, hb1, hk1, hl1⟩ := hq)
        | fail)
      go_ret2
      exact ⟨A1, c1, ws1, rfl, hb1, hk1, hl1⟩
  · obtain ⟨h1, h2⟩ := hx
    obtain ⟨y, rfl⟩ : ∃ y : Nat, x = (y : Int) := ⟨x.toNat, by omega⟩
    rw [Int.toNat_natCast] at HL2
    have hn1 : ¬ (y : Int) < 0 := by omega
    have HO2 : Hid (o = !hasB (y : Int) L.flatten) := Lib.hid (by rw [HO.out, decide_eq_true ⟨h1, h2⟩, Bool.true_and])
    clear HO
    by_cases hn0 : n = 0
    · subst hn0
      obtain rfl : L = [] := List.eq_nil_of_length_eq_zero hLn
      obtain rfl : o = true := by rw [HO2.out]; rfl
      obtain rfl : L2 = [[y]] := by rw [HL2.out]; rfl
      clear HO2 HL2
      go_enter Try.func25, Try.ntmps25
      go_wp2
      go_ret2
      refine ⟨_, 1, [⟨some ⟨w.heap.size, 0, none⟩, 1, 1, nb [y]⟩], rfl, (below_alloc w _).trans ((below_alloc _ _).mono (by simp)), ?_, rfl⟩
      have e1 : (w.alloc (.cells #[.int .i64 (y : Int)] 3)).heap.size = w.heap.size + 1 := by simp
      refine ⟨⟨rfl, .inr ⟨w.heap.size + 1, 0, 1, #[.slice (some ⟨w.heap.size, 0, none⟩) 1 1], rfl, by omega, ?_, Nat.le_refl _, by unfold maxLen; omega, by simp, rfl⟩⟩, ?_, by simp; omega⟩
      · rw [← e1]; exact heap_alloc_new _ _
      · intro e he
        rw [List.mem_singleton] at he
        subst he
        exact (show Mid (w.alloc (.cells #[.int .i64 (y : Int)] 3)) w.heap.size 3 1 (.slice (some ⟨w.heap.size, 0, none⟩) 1 1) 1 [.int .i64 (y : Int)] from ⟨rfl, .inr ⟨w.heap.size, 0, 1, #[.int .i64 (y : Int)], rfl, Nat.le_refl _, heap_alloc_new w _, Nat.le_refl _, by unfold maxLen; omega, by simp, rfl⟩⟩).alloc_ _
    · have hL0 : L ≠ [] := fun e => by rw [e] at hLn; exact hn0 hLn.symm
      obtain ⟨k, hk⟩ : ∃ k, k = kOf (y : Int) L := ⟨_, rfl⟩
      have hkn : k < n := by rw [hk, ← hLn]; exact kOf_lt hL0
      have hmem : L.getD k [] ∈ L := by rw [List.getD_eq_getElem?_getD, List.getElem?_eq_getElem (by omega)]; exact List.getElem_mem _
      obtain ⟨ad, rfl, g0, s0⟩ := HK.out.at_ hkn
      rw [HK.out.el HLL.out k hkn] at s0
      obtain ⟨e1, he1⟩ : ∃ e1, e1 = ws.getD k dA := ⟨_, rfl⟩
      rw [← he1] at g0 s0
      obtain ⟨B1, m1, d1, l1⟩ := e1
      replace g0 : _ = some (Value.slice B1 m1 d1) := g0
      replace s0 : SK .i64 w w.heap.size B1 m1 d1 (nb (L.getD k [])) := s0
      obtain ⟨b, hb⟩ : ∃ b, b = L.getD k [] := ⟨_, rfl⟩
      rw [← hb] at s0 hmem
      have hml : b.length = m1 := by have := s0.len; rwa [nb_len] at this
      have hb16 : m1 ≤ 16 := by rw [← hml]; exact (hR.len b hmem).2
      have HAS : Hid (ascB 0 b = true) := Lib.hid (hR.block hmem)
      have HBK : Hid (b = L.getD (kOf (y : Int) L) []) := Lib.hid (by rw [hb, hk])
      have HKK := Lib.hid hk
      have HB3 : Hid (L.getD k [] = b) := Lib.hid hb.symm
      have HS := Lib.hid s0
      have HBL := Lib.hid hml
      have HMB := Lib.hid hmem
      have k0 : (0 : Int) ≤ k := by omega
      have hkz : (k : Int) < n := by omega
      have hd9 : m1 ≤ 9223372036854775807 := by omega
      have hny : ¬ (n : Int) = 0 := by omega
      have hneq : ((n : Int) == 0) = false := by simp; omega
      have hn3 : ¬ 1073741824 < (y : Int) := by omega
      clear hb hk he1 s0 hml hmem l1 hR hLn hL0 hny
      go_enter Try.func25, Try.ntmps25
      go_upto_region 8 with (first
        | (go_at_call 41; refine (refAt_any _ n c L ws (y : Int) _ HK.out HLL.out HR.out (by omega)).mono ?_; rintro e w1 ⟨rfl, rfl⟩; rw [← HKK.out])
        | fail)
      go_wp2
      go_loopw [7, 8, 10, 35] (fun bb dn xv i v1 => ∃ (j : Nat) (V X : Value) (db : Bool), bb = V ∧ dn = .bool db ∧ xv = X ∧ i = .int .i64 j ∧ j ≤ m1 ∧ Hid (db = decide (lowI (y : Int) (b.take j) < (b.take j).length)) ∧ Hid (Mid v1 w.heap.size 3 1 V (insTo y (b.take j)).length (ks .i64 (nb (insTo y (b.take j))))) ∧ Hid (Below w.heap.size w v1) ∧ Hid (∀ z ∈ b.take j, ¬ z = y)) (fun _ _ _ i _ => m1 - (intOf i).toNat)
      case atStart => exact ⟨0, _, _, false, rfl, rfl, rfl, rfl, Nat.zero_le _, Lib.hid (by simp), Lib.hid (by rw [List.take_zero, insTo_nil]; exact Mid.nil _ _ _ _), Lib.hid (Below.refl _ _), Lib.hid (by simp)⟩
      case round =>
        obtain ⟨j, V, X, db, hV, rfl, hX, rfl, hj, HDB, HM, HY, HNE⟩ := hrel
        subst hV hX
        obtain ⟨A1, c1, e1⟩ := HM.out.form
        subst e1
        have j0 : (0 : Int) ≤ j := by omega
        by_cases hlt : j < m1
        · have hjl : j < b.length := by rw [HBL.out]; exact hlt
          have hts := take_succ' hjl
          obtain ⟨bd, rfl, hz0c⟩ := (HS.out.below HY.out).2.2.2.kat hlt
          rw [nb_get hjl] at hz0c
          have hzm : b.getD j 0 ∈ b := getD_mem0 hjl
          obtain ⟨z, hz⟩ : ∃ z, z = b.getD j 0 := ⟨_, rfl⟩
          rw [← hz] at hts hz0c hzm
          have HTS := Lib.hid hts
          obtain ⟨q, hq⟩ : ∃ q, q = (insTo y (b.take j)).length := ⟨_, rfl⟩
          have hq9 : q ≤ 17 := by have := insTo_len y (b.take j); rw [List.length_take] at this; omega
          rw [← hq] at HM ⊢
          have HQ := Lib.hid hq
          clear hts hz hq hjl
          by_cases hzy : z = y
          · subst hzy
            obtain rfl : o = false := by
              rw [HO2.out]
              have : hasB (z : Int) L.flatten = true := by
                unfold hasB
                exact decide_eq_true ⟨z, List.mem_flatten.2 ⟨b, HMB.out, hzm⟩, rfl⟩
              rw [this]; rfl
            obtain rfl : L2 = L := by rw [HL2.out]; rfl
            clear hzm HL2 HO2 hnc
            have HLN2 := HLN
            clear HLN
            go_wp2_with (first
              | (go_at_call 40; refine (copied_any (some ad) n c L2 ws _ (HK.out.on HY.out) HLL.out (fun b hb => (HR.out.len b hb).2) (by omega)).mono ?_
                 rintro e w1 hq
                 obtain ⟨A9, c9, ws9, rfl, hb9, hk9, hl9⟩ := hq)
              | fail)
            go_ret2
            exact ⟨A9, c9, ws9, rfl, HY.out.trans (hb9.mono HY.out.size), hk9.lower HY.out.size, hl9⟩
          · have hne1 : ((z : Int) == (y : Int)) = false := by simp; omega
            have HNE2 : Hid (∀ u ∈ b.take (j + 1), ¬ u = y) := Lib.hid (fun u hu => by
              rw [HTS.out, List.mem_append, List.mem_singleton] at hu
              rcases hu with hu | rfl
              · exact HNE.out u hu
              · exact hzy)
            cases db with
            | true =>
              have hd1 : lowI (y : Int) (b.take j) < (b.take j).length := by have := HDB.out; simpa using this.symm
              have h9 := insTo_done (x := y) (y := z) hd1
              rw [← HTS.out] at h9
              have HD2 : Hid (true = decide (lowI (y : Int) (b.take (j + 1)) < (b.take (j + 1)).length)) := Lib.hid (by rw [decide_eq_true h9.2])
              have HI : Hid (insTo y (b.take (j + 1)) = insTo y (b.take j) ++ [z]) := Lib.hid h9.1
              clear hd1 h9
              go_wp2_with (first
                | (refine wpList_append_mid rfl (.tmp 55) (.tmp 57) 28 rfl w.heap.size 3 i1 _ 1 8 Try.underlying28 hi1 hy0 hy1 hy2 rfl (by omega) (.slice A1 q c1) _ _ rfl (HM.out.alloc_ _) ⟨wr.heap.size, 0, none⟩ 1 1 [.int .i64 (z : Int)] rfl rfl (World.news_of_block (cs := #[.int .i64 (z : Int)]) (t := 3) (fr := (0, 0)) (heap_alloc_new wr _)) (by simp [Value.oneCell']) (by unfold maxLen; omega) (by omega) (by have := HY.out.size; simp; omega) ?_
                   intro v1 w1 hmm hran
                   have HY1 : Hid (Below w.heap.size w w1) := Lib.hid ((HY.out.trans ((below_alloc wr _).mono HY.out.size)).grown hran.grown (by have := HY.out.size; simp; omega) (fun g hg => (HM.out.lt g hg).1))
                   have HM1 := Lib.hid hmm
                   clear hmm hran
                   obtain ⟨A1, c1, e1⟩ := HM1.out.form
                   subst e1)

                | fail)
              have HF : Hid (Mid w1 w.heap.size 3 1 (.slice A1 (q + 1) c1) (insTo y (b.take (j + 1))).length (ks .i64 (nb (insTo y (b.take (j + 1)))))) := Lib.hid (by
                rw [HI.out, List.length_append, ks_snoc, ← HQ.out]; exact HM1.out)
              go_roundw
              case rel => exact ⟨j + 1, _, _, true, rfl, rfl, rfl, by go_num, by omega, HD2, HF, HY1, HNE2⟩
              case measure => simp only [intOf]; omega
            | false =>
              have hd1 : ¬ lowI (y : Int) (b.take j) < (b.take j).length := by have := HDB.out; simpa using this.symm
              by_cases hyz : y < z
              · have hyz1 : (y : Int) < z := by omega
                have h9 := insTo_more (x := y) (y := z) hd1 hyz
                rw [← HTS.out] at h9
                have HD2 : Hid (true = decide (lowI (y : Int) (b.take (j + 1)) < (b.take (j + 1)).length)) := Lib.hid (by rw [decide_eq_true h9.2])
                have HI : Hid (insTo y (b.take (j + 1)) = insTo y (b.take j) ++ [y] ++ [z]) := Lib.hid h9.1
                clear hd1 h9 hyz
                go_wp2_with (first
                  | (refine wpList_append_mid rfl (.tmp 51) (.tmp 53) 28 rfl w.heap.size 3 i1 _ 1 8 Try.underlying28 hi1 hy0 hy1 hy2 rfl (by omega) (.slice A1 q c1) _ _ rfl (HM.out.alloc_ _) ⟨wr.heap.size, 0, none⟩ 1 1 [.int .i64 (y : Int)] rfl rfl (World.news_of_block (cs := #[.int .i64 (y : Int)]) (t := 3) (fr := (0, 0)) (heap_alloc_new wr _)) (by simp [Value.oneCell']) (by unfold maxLen; omega) (by omega) (by have := HY.out.size; simp; omega) ?_
                     intro v1 w1 hmm hran
                     have HY1 : Hid (Below w.heap.size w w1) := Lib.hid ((HY.out.trans ((below_alloc wr _).mono HY.out.size)).grown hran.grown (by have := HY.out.size; simp; omega) (fun g hg => (HM.out.lt g hg).1))
                     have HM1 := Lib.hid hmm
                     clear hmm hran
                     obtain ⟨A1, c1, e1⟩ := HM1.out.form
                     subst e1)
                  | (refine wpList_append_mid rfl (.tmp 55) (.tmp 57) 28 rfl w.heap.size 3 i1 _ 1 8 Try.underlying28 hi1 hy0 hy1 hy2 rfl (by omega) (.slice A1 (q + 1) c1) _ _ rfl (HM1.out.alloc_ _) ⟨w1.heap.size, 0, none⟩ 1 1 [.int .i64 (z : Int)] rfl rfl (World.news_of_block (cs := #[.int .i64 (z : Int)]) (t := 3) (fr := (0, 0)) (heap_alloc_new w1 _)) (by simp [Value.oneCell']) (by unfold maxLen; omega) (by omega) (by have := HY1.out.size; simp; omega) ?_
                     intro v11 w11 hmm hran
                     have HY11 : Hid (Below w.heap.size w w11) := Lib.hid ((HY1.out.trans ((below_alloc w1 _).mono HY1.out.size)).grown hran.grown (by have := HY1.out.size; simp; omega) (fun g hg => (HM1.out.lt g hg).1))
                     have HM11 := Lib.hid hmm
                     clear hmm hran
                     obtain ⟨A11, c11, e11⟩ := HM11.out.form
                     subst e11)
                  | fail)
                have HF : Hid (Mid w11 w.heap.size 3 1 (.slice A11 (q + 1 + 1) c11) (insTo y (b.take (j + 1))).length (ks .i64 (nb (insTo y (b.take (j + 1)))))) := Lib.hid (by
                  rw [HI.out, List.length_append, List.length_append, ks_snoc, ks_snoc, ← HQ.out]; exact HM11.out)
                go_roundw
                case rel => exact ⟨j + 1, _, _, true, rfl, rfl, rfl, by go_num, by omega, HD2, HF, HY11, HNE2⟩
                case measure => simp only [intOf]; omega
              · have hyz0 : z < y := by omega
                have hyz1 : ¬ (y : Int) < z := by omega
                have h9 := insTo_less (x := y) (y := z) hd1 hyz0
                rw [← HTS.out] at h9
                have HD2 : Hid (false = decide (lowI (y : Int) (b.take (j + 1)) < (b.take (j + 1)).length)) := Lib.hid (by rw [decide_eq_false h9.2])
                have HI : Hid (insTo y (b.take (j + 1)) = insTo y (b.take j) ++ [z]) := Lib.hid h9.1
                clear hd1 h9 hyz hyz0
                go_wp2_with (first
                  | (refine wpList_append_mid rfl (.tmp 55) (.tmp 57) 28 rfl w.heap.size 3 i1 _ 1 8 Try.underlying28 hi1 hy0 hy1 hy2 rfl (by omega) (.slice A1 q c1) _ _ rfl (HM.out.alloc_ _) ⟨wr.heap.size, 0, none⟩ 1 1 [.int .i64 (z : Int)] rfl rfl (World.news_of_block (cs := #[.int .i64 (z : Int)]) (t := 3) (fr := (0, 0)) (heap_alloc_new wr _)) (by simp [Value.oneCell']) (by unfold maxLen; omega) (by omega) (by have := HY.out.size; simp; omega) ?_
                     intro v1 w1 hmm hran
                     have HY1 : Hid (Below w.heap.size w w1) := Lib.hid ((HY.out.trans ((below_alloc wr _).mono HY.out.size)).grown hran.grown (by have := HY.out.size; simp; omega) (fun g hg => (HM.out.lt g hg).1))
                     have HM1 := Lib.hid hmm
                     clear hmm hran
                     obtain ⟨A1, c1, e1⟩ := HM1.out.form
                     subst e1)
                  | fail)
                have HF : Hid (Mid w1 w.heap.size 3 1 (.slice A1 (q + 1) c1) (insTo y (b.take (j + 1))).length (ks .i64 (nb (insTo y (b.take (j + 1)))))) := Lib.hid (by
                  rw [HI.out, List.length_append, ks_snoc, ← HQ.out]; exact HM1.out)
                go_roundw
                case rel => exact ⟨j + 1, _, _, false, rfl, rfl, rfl, by go_num, by omega, HD2, HF, HY1, HNE2⟩
                case measure => simp only [intOf]; omega
        · obtain rfl : m1 = j := by omega
          have htk : b.take m1 = b := List.take_of_length_le (by rw [HBL.out]; exact Nat.le_refl _)
          rw [htk] at HDB HM HNE ⊢
          have hnb : ¬ y ∈ b := fun hyb => HNE.out y hyb rfl
          have hnf : ¬ y ∈ L.flatten := fun hyf => hnb (by rw [HBK.out]; exact (mem_block HR.out hyf).2)
          obtain rfl : o = true := by
            rw [HO2.out]
            have : hasB (y : Int) L.flatten = false := by
              unfold hasB
              exact decide_eq_false (fun ⟨u, hu, he⟩ => hnf (by rw [show y = u by omega]; exact hu))
            rw [this]; rfl
          have HL3 : Hid (L2 = addL y L) := Lib.hid (by rw [HL2.out]; rfl)
          clear HL2 HO2 hnf hnb HNE htk
          obtain ⟨q, hq⟩ : ∃ q, q = (insTo y b).length := ⟨_, rfl⟩
          rw [← hq] at HM ⊢
          obtain ⟨bf, hbf⟩ : ∃ bf, bf = insB y b := ⟨_, rfl⟩
          obtain ⟨qf, hqf⟩ : ∃ qf, qf = bf.length := ⟨_, rfl⟩
          have hqf1 : qf = m1 + 1 := by rw [hqf, hbf, insB_len, HBL.out]
          have HBF := Lib.hid hbf
          have HQF := Lib.hid hqf
          have HQ := Lib.hid hq
          have HQ1 := Lib.hid hqf1
          clear hbf hqf hq hqf1
          have hin : ∃ (Wc : World) (Ac : Option Addr) (cc : Nat), Hid (Wc = Wc) := ⟨wr, A1, c1, Lib.hid rfl⟩
          clear hin
          have HTL : Hid ((L.take k).length = k) := Lib.hid (by rw [List.length_take, HLN.out]; omega)
          cases db
          case' true =>
            have hd1 : lowI (y : Int) b < b.length := by have := HDB.out; simpa using this.symm
            have hqq : q = qf := by rw [HQ.out, HQF.out, HBF.out, insTo_end hd1]
            rw [HQ.out, insTo_end hd1, ← HBF.out, ← HQF.out] at HM
            rw [hqq]
            clear hqq hd1 HDB HQ
            go_upto_region 20 with (fail)
            obtain ⟨Wc, hWc⟩ : ∃ W' : World, W' = wr := ⟨_, rfl⟩
            obtain ⟨Ac, hAc⟩ : ∃ A' : Option Addr, A' = A1 := ⟨_, rfl⟩
            obtain ⟨cc, hcc⟩ : ∃ c' : Nat, c' = c1 := ⟨_, rfl⟩
            rw [← hWc, ← hAc, ← hcc] at HM
            rw [← hWc] at HY
            rw [← hWc, ← hAc, ← hcc]
          case' false =>
            have hd1 : ¬ lowI (y : Int) b < b.length := by have := HDB.out; simpa using this.symm
            have HI : Hid (insTo y b ++ [y] = bf) := Lib.hid (by rw [HBF.out]; exact insTo_end2 hd1)
            have hqq : q + 1 = qf := by rw [HQ.out, HQF.out, ← HI.out, List.length_append]; rfl
            have HQQ := Lib.hid hqq
            have hq9 : q ≤ 17 := by have := HQ1.out; omega
            clear hqq hd1 HDB
            go_upto_region 20 with (first
              | (refine wpList_append_mid rfl (.tmp 62) (.tmp 64) 28 rfl w.heap.size 3 i1 _ 1 8 Try.underlying28 hi1 hy0 hy1 hy2 rfl (by omega) (.slice A1 q c1) _ _ rfl (HM.out.alloc_ _) ⟨wr.heap.size, 0, none⟩ 1 1 [.int .i64 (y : Int)] rfl rfl (World.news_of_block (cs := #[.int .i64 (y : Int)]) (t := 3) (fr := (0, 0)) (heap_alloc_new wr _)) (by simp [Value.oneCell']) (by unfold maxLen; omega) (by omega) (by have := HY.out.size; simp; omega) ?_
                 intro v1 w1 hmm hran
                 have HY1 : Hid (Below w.heap.size w w1) := Lib.hid ((HY.out.trans ((below_alloc wr _).mono HY.out.size)).grown hran.grown (by have := HY.out.size; simp; omega) (fun g hg => (HM.out.lt g hg).1))
                 have HM1 := Lib.hid hmm
                 clear hmm hran
                 obtain ⟨A1, c1, e1⟩ := HM1.out.form
                 subst e1)
              | fail)
            have HM := HM1
            have HY := HY1
            rw [← ks_snoc, HI.out, HQQ.out] at HM
            rw [HQQ.out]
            obtain ⟨Wc, hWc⟩ : ∃ W' : World, W' = w1 := ⟨_, rfl⟩
            obtain ⟨Ac, hAc⟩ : ∃ A' : Option Addr, A' = A1 := ⟨_, rfl⟩
            obtain ⟨cc, hcc⟩ : ∃ c' : Nat, c' = c1 := ⟨_, rfl⟩
            rw [← hWc, ← hAc, ← hcc] at HM
            rw [← hWc] at HY
            rw [← hWc, ← hAc, ← hcc]
            clear HQQ HI hq9 HQ
          all_goals
            clear hWc hAc hcc
            have hc9 : c ≤ maxLen := HK.out.2.1
            go_upto_region 21 with (first
              | (go_at_call 40; refine (copied_any (some ad) k c (L.take k) (ws.take k) Wc ((HK.out.on HY.out).take (Nat.le_of_lt hkn)) (by rw [List.map_take, HLL.out, List.map_take]) (fun b hb => (HR.out.len b (List.mem_of_mem_take hb)).2) (by omega)).mono ?_
                 rintro e w3 ⟨A3, c3, own3, rfl, hb3, ho3, hm3⟩
                 rw [HTL.out] at ho3 ⊢
                 have HM3 := Lib.hid (HM.out.onb hb3)
                 have HY3 := Lib.hid (HY.out.trans (hb3.mono HY.out.size))
                 have HO3 : Hid (OO w3 w.heap.size (.slice A3 k c3) own3) := Lib.hid (ho3.lower HY.out.size)
                 have HL3m := Lib.hid hm3
                 have HN3 : Hid (own3.length = k) := Lib.hid (by rw [maps_len hm3]; exact HTL.out)
                 clear hb3 ho3 hm3)
              | fail)
            have hm17 : ¬ m1 = 16 ∨ m1 = 16 := by omega
            rcases hm17 with hm17 | hm17
            · have hqs : qf ≤ 16 := by have := HQ1.out; omega
              have hqg : ¬ (qf : Int) > 16 := by omega
              go_upto_region 25 with (first
                | (refine wpList_append_mid rfl (.tmp 89) (.tmp 91) 53 rfl w.heap.size 28 i0 _ 1 24 Try.underlying53 hi0 hz0 hz1 hz2 rfl (by omega) (.slice A3 k c3) _ _ rfl ((by have := HO3.out.row; rw [HN3.out] at this; exact this : Mid w3 w.heap.size 28 1 (.slice A3 k c3) k (own3.map Ar.v)).alloc_ _) ⟨w3.heap.size, 0, none⟩ 1 1 [.slice Ac qf cc] rfl rfl (World.news_of_block (cs := #[.slice Ac qf cc]) (t := 28) (fr := (0, 0)) (heap_alloc_new w3 _)) (by simp [Value.oneCell']) (by unfold maxLen; omega) (by omega) (by have := HY3.out.size; simp; omega) ?_
                   intro v4 w4 hmm hran
                   have HO4' : Hid (OO w4 w.heap.size v4 (own3 ++ [⟨Ac, qf, cc, nb bf⟩])) := Lib.hid (OO.snoc (w := w3.alloc (.cells #[.slice Ac qf cc] 28)) (V := .slice A3 k c3) (HO3.out.onb (below_alloc w3 _)) (HM3.out.alloc_ _) (by rw [HN3.out]; exact hmm) hran)
                   have HY4 : Hid (Below w.heap.size w w4) := Lib.hid ((HY3.out.trans ((below_alloc w3 _).mono HY3.out.size)).grown hran.grown (by have := HY3.out.size; simp; omega) (fun g hg => (HO3.out.row.lt g (by first | exact hg | (rw [HN3.out]; exact hg))).1))
                   obtain ⟨A4, c4, e4⟩ := hmm.form
                   subst e4
                   clear hmm hran)
                | fail)
              obtain ⟨own4, hown4⟩ : ∃ own4, own4 = own3 ++ [⟨Ac, qf, cc, nb bf⟩] := ⟨_, rfl⟩
              have HN4 : Hid (own4.length = k + 1) := Lib.hid (by rw [hown4, List.length_append, HN3.out]; rfl)
              have HL4 : Hid (own4.map Ar.l = (L.take k ++ [bf]).map nb) := Lib.hid (by rw [hown4, List.map_append, HL3m.out, List.map_append]; rfl)
              have HO4 : Hid (OO w4 w.heap.size (.slice A4 (k + 1) c4) own4) := Lib.hid (by rw [hown4]; exact HO4'.out)
              have HP : Hid (L2 = (L.take k ++ [bf]) ++ L.drop (k + 1)) := Lib.hid (by
                rw [HL3.out]
                unfold addL
                have hne : ¬ L = [] := fun e => by have := HLN.out; rw [e] at this; simp at this; omega
                rw [if_neg hne]
                simp only []
                rw [← HKK.out, HB3.out, ← HBF.out]
                rw [if_pos (by rw [← HQF.out]; exact hqs)])
              clear hown4 HO4'
              have HD0 := (HK.out.on HY4.out).drop (show k + 1 ≤ n by omega)
              have HDL : Hid ((L.drop (k + 1)).length = n - (k + 1)) := Lib.hid (by rw [List.length_drop, HLN.out])
              obtain ⟨n5, hn5⟩ : ∃ n5, n5 = n - (k + 1) := ⟨_, rfl⟩
              have HN5 := Lib.hid hn5
              have hn59 : n5 ≤ 1000 := by omega
              have hp9 : k + 1 ≤ 1002 := by omega
              have HDM : Hid ((ws.drop (k + 1)).map Ar.l = (L.drop (k + 1)).map nb) := Lib.hid (by rw [List.map_drop, HLL.out, List.map_drop])
              have hck : c = k + 1 ∨ ¬ c = k + 1 := by omega
              rcases hck with hck | hck
              rotate_left
              all_goals
                first
                  | (rw [if_neg hck] at HD0
                     have HD := Lib.hid HD0)
                  | (rw [if_pos hck] at HD0
                     have HD := Lib.hid HD0)
                clear HD0 hn5
              all_goals
                go_wp2_with (first
                  | (go_at_call 40; refine (copied_any _ _ _ (L.drop (k + 1)) (ws.drop (k + 1)) w4 (by first | exact HD.out | (have h8 := HD.out; rw [hck] at h8; exact h8) | (have h8 := HD.out; simp only [hck, Nat.sub_self] at h8 ⊢; exact h8)) HDM.out (fun b hb => (HR.out.len b (List.mem_of_mem_drop hb)).2) (by omega)).mono ?_
                     rintro e w5 ⟨A5, c5, own5, rfl, hb5, ho5, hm5⟩
                     rw [HDL.out, ← HN5.out] at ho5 ⊢
                     have HO5 : Hid (OO w5 w.heap.size (.slice A5 n5 c5) own5) := Lib.hid (ho5.lower HY4.out.size)
                     have HO4b := Lib.hid (HO4.out.onb hb5)
                     have HY5 := Lib.hid (HY4.out.trans (hb5.mono HY4.out.size))
                     have HNO : Hid (own5.length = n5) := Lib.hid (by rw [maps_len hm5, HDL.out, HN5.out])
                     have HM5 := Lib.hid hm5
                     clear hb5 ho5 hm5)
                  | (refine wpList_append_src rfl (.tmp 93) (.tmp 98) 53 rfl w.heap.size 28 i0 _ 1 24 Try.underlying53 hi0 hz0 hz1 hz2 rfl (by omega) (.slice A4 (k + 1) c4) (k + 1) (own4.map Ar.v) rfl ((by have := HO4b.out.row; rw [HN4.out] at this; exact this : Mid w5 w.heap.size 28 1 (.slice A4 (k + 1) c4) (k + 1) (own4.map Ar.v))) w5.heap.size A5 n5 c5 (own5.map Ar.v) rfl (by have := HO5.out.row; rw [HNO.out] at this; exact this.readsv) (oneV own5) (by unfold maxLen; omega) (by omega) HY5.out.size ?_
                     intro v6 w6 hmm hran
                     have HO6 : Hid (OO w6 w.heap.size v6 (own4 ++ own5)) := Lib.hid (OO.append (V := .slice A4 (k + 1) c4) HO4b.out HO5.out.els (by rw [HN4.out, HNO.out]; exact hmm) hran)
                     have HY6 : Hid (Below w.heap.size w w6) := Lib.hid (HY5.out.grown hran.grown HY5.out.size (fun g hg => (HO4b.out.row.lt g (by first | exact hg | (rw [HN4.out]; exact hg))).1))
                     obtain ⟨A6, c6, e6⟩ := hmm.form
                     subst e6
                     clear hmm hran)
                  | fail)
                go_ret2
                have HLE : L2.length = k + 1 + n5 := by rw [HP.out, List.length_append, HDL.out, ← HN5.out, ← maps_len HL4.out, HN4.out]
                refine ⟨A6, c6, own4 ++ own5, by rw [HLE]; rfl, HY6.out, ?_, by rw [HP.out, List.map_append, List.map_append, HL4.out, HM5.out]⟩
                rw [HLE]
                exact HO6.out
            · obtain rfl : m1 = 16 := hm17
              obtain rfl : qf = 17 := HQ1.out
              have hcc17 : 17 ≤ cc := HM3.out.caps.1
              have hcc9 : (9 : Int) ≤ cc := by omega
              have hcc8 : ¬ cc = 9 := by omega
              go_upto_region 23 with (fail)
              refine wp_region_K SX 0 (by kernel_rfl) ?_
              obtain ⟨Wd, hWd⟩ : ∃ Wd : World, Wd = w3.drew := ⟨_, rfl⟩
              have HMd : Hid (Mid Wd w.heap.size 3 1 (.slice Ac 17 cc) 17 (ks .i64 (nb bf))) := Lib.hid (by rw [hWd]; exact HM3.out.onb (below_drew w3))
              have HOd : Hid (OO Wd w.heap.size (.slice A3 k c3) own3) := Lib.hid (by rw [hWd]; exact HO3.out.onb (below_drew w3))
              have HYd : Hid (Below w.heap.size w Wd) := Lib.hid (by rw [hWd]; exact HY3.out.trans ((below_drew w3).mono HY3.out.size))
              rw [← hWd]
              clear hWd
              refine wpAnyK_pure (i := 0) (oi := _) (v := ?_) (by rfl) (by kernel_rfl) (by intro _ _ _ h; exact h) (Or.inl ⟨by rfl, ?_⟩) ?_
              rotate_left 1
              · intro w' _
                go_simp
                all_goals with_reducible rfl
              simp only [Act.put, List.getElem_toArray, List.getElem_cons_zero, List.getElem_cons_succ, List.setIfInBounds_toArray, List.set_cons_zero, List.set_cons_succ]
              refine wpAnyK_pure (i := 1) (oi := _) (v := ?_) (by rfl) (by kernel_rfl) (by intro _ _ _ h; exact h) (Or.inl ⟨by rfl, ?_⟩) ?_
              rotate_left 1
              · intro w' _
                go_simp
                all_goals with_reducible rfl
              simp only [Act.put, List.getElem_toArray, List.getElem_cons_zero, List.getElem_cons_succ, List.setIfInBounds_toArray, List.set_cons_zero, List.set_cons_succ]
              refine wpAnyK_pure (i := 2) (oi := _) (v := ?_) (by rfl) (by kernel_rfl) (by intro _ _ _ h; exact h) (Or.inl ⟨by rfl, ?_⟩) ?_
              rotate_left 1
              · intro w' _
                go_simp
                all_goals with_reducible rfl
              simp only [Act.put, List.getElem_toArray, List.getElem_cons_zero, List.getElem_cons_succ, List.setIfInBounds_toArray, List.set_cons_zero, List.set_cons_succ]
              refine wpAnyK_pure (i := 3) (oi := _) (v := ?_) (by rfl) (by kernel_rfl) (by intro _ _ _ h; exact h) (Or.inl ⟨by rfl, ?_⟩) ?_
              rotate_left 1
              · intro w' _
                go_simp
                all_goals with_reducible rfl
              simp only [Act.put, List.getElem_toArray, List.getElem_cons_zero, List.getElem_cons_succ, List.setIfInBounds_toArray, List.set_cons_zero, List.set_cons_succ]
              refine wpAnyK_pure (i := 4) (oi := _) (v := ?_) (by rfl) (by kernel_rfl) (by intro _ _ _ h; exact h) (Or.inl ⟨by rfl, ?_⟩) ?_
              rotate_left 1
              · intro w' _
                go_simp
                all_goals with_reducible rfl
              simp only [Act.put, List.getElem_toArray, List.getElem_cons_zero, List.getElem_cons_succ, List.setIfInBounds_toArray, List.set_cons_zero, List.set_cons_succ]
              refine wpAnyK_pure (i := 6) (oi := _) (v := ?_) (by rfl) (by kernel_rfl) (by intro _ _ _ h; exact h) (Or.inl ⟨by rfl, ?_⟩) ?_
              rotate_left 1
              · intro w' _
                go_simp
                all_goals with_reducible rfl
              simp only [Act.put, List.getElem_toArray, List.getElem_cons_zero, List.getElem_cons_succ, List.setIfInBounds_toArray, List.set_cons_zero, List.set_cons_succ]
              refine wpAnyK_pure (i := 7) (oi := _) (v := ?_) (by rfl) (by kernel_rfl) (by intro _ _ _ h; exact h) (Or.inl ⟨by rfl, ?_⟩) ?_
              rotate_left 1
              · intro w' _
                go_simp
                all_goals with_reducible rfl
              simp only [Act.put, List.getElem_toArray, List.getElem_cons_zero, List.getElem_cons_succ, List.setIfInBounds_toArray, List.set_cons_zero, List.set_cons_succ]
              refine wpAnyK_pure (i := 8) (oi := _) (v := ?_) (by rfl) (by kernel_rfl) (by intro _ _ _ h; exact h) (Or.inl ⟨by rfl, ?_⟩) ?_
              rotate_left 1
              · intro w' _
                go_simp
                all_goals with_reducible rfl
              simp only [Act.put, List.getElem_toArray, List.getElem_cons_zero, List.getElem_cons_succ, List.setIfInBounds_toArray, List.set_cons_zero, List.set_cons_succ]
              refine wpAnyK_all (rs := [5]) (by kernel_rfl) (by simp) ?_
              intro ix hix
              simp only [List.mem_cons, List.not_mem_nil, or_false] at hix
              subst hix
              refine wpK_op (o := _) (by rfl) (fun K hK => ?_)
              refine step_build0 (by rfl) (by rfl) ?_
              refine hK _ _ (fun _ _ => trivial) ?_
              clear hK K
              try simp only [Act.put, List.getElem_toArray, List.getElem_cons_zero, List.getElem_cons_succ, List.setIfInBounds_toArray, List.set_cons_zero, List.set_cons_succ]
              have hsd := HMd.out.sk.drop (k := 9) (by omega)
              rw [if_neg hcc8] at hsd
              have HSD := Lib.hid hsd
              clear hsd
              have HNB : Hid ((nb bf).drop 9 = nb (bf.drop 9)) := Lib.hid (by unfold nb; rw [List.map_drop])
              have HNT : Hid ((nb bf).take 9 = nb (bf.take 9)) := Lib.hid (by unfold nb; rw [List.map_take])
              have HMe : Hid (Mid (Wd.alloc (.cells #[] 3)) Wd.heap.size 3 1 (.slice (some ⟨Wd.heap.size, 0, none⟩) 0 0) 0 []) := Lib.hid ⟨rfl, .inr ⟨_, 0, 0, #[], rfl, Nat.le_refl _, heap_alloc_new Wd _, Nat.le_refl _, Nat.zero_le _, by simp, rfl⟩⟩
              refine wpAnyK_all (rs := [9]) (by kernel_rfl) (by simp) ?_
              intro ix hix
              simp only [List.mem_cons, List.not_mem_nil, or_false] at hix
              subst hix
              refine wpK_op (o := _) (by rfl) (fun K hK => ?_)
              refine step_append_src (by rfl) _ _ _ (by rfl) Wd.heap.size 3 i1 _ 1 8 Try.underlying28 hi1 hy0 hy1 hy2 rfl (by omega) (.slice (some ⟨Wd.heap.size, 0, none⟩) 0 0) 0 [] (by rfl) HMe.out Wd.heap.size (Ac.map (·.add 9)) 8 (cc - 9) (ks .i64 ((nb bf).drop 9)) (by rfl) ((HSD.out.below (below_alloc Wd _)).2.2.2) (ks_one _ _) (by unfold maxLen; omega) (by omega) (by simp) ?_
              intro v9 w9 hmm hran
              rw [Nat.zero_add, List.nil_append, HNB.out] at hmm
              have HM9 := Lib.hid hmm
              have HB9 : Hid (Below Wd.heap.size Wd w9) := Lib.hid ((below_alloc Wd (.cells #[] 3)).grown hran.grown (by simp) (fun g hg => (HMe.out.lt g hg).1))
              clear hmm hran
              obtain ⟨A9, c9, e9⟩ := HM9.out.form
              subst e9
              refine hK _ _ (fun _ _ => trivial) ?_
              clear hK K
              try simp only [Act.put, List.getElem_toArray, List.getElem_cons_zero, List.getElem_cons_succ, List.setIfInBounds_toArray, List.set_cons_zero, List.set_cons_succ]
              refine wpAnyK_all (rs := [10]) (by kernel_rfl) (by simp) ?_
              intro ix hix
              simp only [List.mem_cons, List.not_mem_nil, or_false] at hix
              subst hix
              refine wpK_op (o := _) (by rfl) (fun K hK => ?_)
              go_simp
              refine hK _ _ (fun _ _ => trivial) ?_
              clear hK K
              try simp only [Act.put, List.getElem_toArray, List.getElem_cons_zero, List.getElem_cons_succ, List.setIfInBounds_toArray, List.set_cons_zero, List.set_cons_succ]
              refine wpAnyK_all (rs := [11]) (by kernel_rfl) (by simp) ?_
              intro ix hix
              simp only [List.mem_cons, List.not_mem_nil, or_false] at hix
              subst hix
              refine wpK_op (o := _) (by rfl) (fun K hK => ?_)
              refine step_append_src (by rfl) _ _ _ (by rfl) w.heap.size 28 i0 _ 1 24 Try.underlying53 hi0 hz0 hz1 hz2 rfl (by omega) (.slice A3 k c3) k (own3.map Ar.v) (by rfl) ((by have := (HOd.out.onb HB9.out).row; rw [HN3.out] at this; exact this : Mid w9 w.heap.size 28 1 (.slice A3 k c3) k (own3.map Ar.v)).alloc_ _) _ _ 2 2 [.slice Ac 9 9, .slice A9 8 c9] (by rfl) (Reads.lit w9 28 #[.slice Ac 9 9, .slice A9 8 c9]) (by simp [Value.oneCell']) (by unfold maxLen; omega) (by omega) (by have := HYd.out.size; have := HB9.out.size; simp; omega) ?_
              intro v4 w4 hmm hran
              have HYe : Hid (Below w.heap.size w w9) := Lib.hid (HYd.out.trans (HB9.out.mono HYd.out.size))
              have HY4 : Hid (Below w.heap.size w w4) := Lib.hid ((HYe.out.trans ((below_alloc w9 _).mono HYe.out.size)).grown hran.grown (by have := HYe.out.size; simp; omega) (fun g hg => (HOd.out.row.lt g (by first | exact hg | (rw [HN3.out]; exact hg))).1))
              have HO4 : Hid (OO w4 w.heap.size v4 (own3 ++ [⟨Ac, 9, 9, nb (bf.take 9)⟩, ⟨A9, 8, c9, nb (bf.drop 9)⟩])) := Lib.hid (by
                refine OO.append (w := w9.alloc (.cells #[.slice Ac 9 9, .slice A9 8 c9] 28)) (V := .slice A3 k c3) ((HOd.out.onb HB9.out).onb (below_alloc w9 _)) ?_ (by rw [HN3.out]; exact hmm) hran
                intro e he
                rw [List.mem_cons, List.mem_singleton] at he
                rcases he with rfl | rfl
                · have := (HMd.out.front (k := 9) (by omega) (d := 9) (Nat.le_refl _) (by omega))
                  rw [show (ks .i64 (nb bf)).take 9 = ks .i64 (nb (bf.take 9)) from by rw [← HNT.out]; unfold ks; rw [List.map_take]] at this
                  exact (this.onb HB9.out).alloc_ _
                · exact (HM9.out.alloc_ _).lower HYd.out.size)
              obtain ⟨A4, c4, e4⟩ := hmm.form
              subst e4
              clear hmm hran
              refine hK _ _ (fun _ _ => trivial) ?_
              clear hK K
              try simp only [Act.put, List.getElem_toArray, List.getElem_cons_zero, List.getElem_cons_succ, List.setIfInBounds_toArray, List.set_cons_zero, List.set_cons_succ]
              refine wpAnyK_all (rs := [12]) (by kernel_rfl) (by simp) ?_
              intro ix hix
              simp only [List.mem_cons, List.not_mem_nil, or_false] at hix
              subst hix
              refine wpK_op (o := _) (by rfl) (fun K hK => ?_)
              go_simp
              refine hK _ _ (fun _ _ => trivial) ?_
              clear hK K
              try simp only [Act.put, List.getElem_toArray, List.getElem_cons_zero, List.getElem_cons_succ, List.setIfInBounds_toArray, List.set_cons_zero, List.set_cons_succ]
              refine wpAnyK_done (by kernel_rfl) ?_ _
              obtain ⟨own4, hown4⟩ : ∃ own4, own4 = own3 ++ [⟨Ac, 9, 9, nb (bf.take 9)⟩, ⟨A9, 8, c9, nb (bf.drop 9)⟩] := ⟨_, rfl⟩
              rw [← hown4] at HO4
              have HN4 : Hid (own4.length = k + 2) := Lib.hid (by rw [hown4, List.length_append, HN3.out]; rfl)
              have HL4 : Hid (own4.map Ar.l = (L.take k ++ [bf.take 9, bf.drop 9]).map nb) := Lib.hid (by rw [hown4, List.map_append, HL3m.out, List.map_append]; rfl)
              have HP : Hid (L2 = (L.take k ++ [bf.take 9, bf.drop 9]) ++ L.drop (k + 1)) := Lib.hid (by
                rw [HL3.out]
                unfold addL
                have hne : ¬ L = [] := fun e => by have := HLN.out; rw [e] at this; simp at this; omega
                rw [if_neg hne]
                simp only []
                rw [← HKK.out, HB3.out, ← HBF.out]
                rw [if_neg (by rw [← HQF.out]; omega), ← HQF.out])
              clear hown4
              have HD0 := (HK.out.on HY4.out).drop (show k + 1 ≤ n by omega)
              have HDL : Hid ((L.drop (k + 1)).length = n - (k + 1)) := Lib.hid (by rw [List.length_drop, HLN.out])
              obtain ⟨n5, hn5⟩ : ∃ n5, n5 = n - (k + 1) := ⟨_, rfl⟩
              have HN5 := Lib.hid hn5
              have hn59 : n5 ≤ 1000 := by omega
              have hp9 : k + 2 ≤ 1002 := by omega
              have HDM : Hid ((ws.drop (k + 1)).map Ar.l = (L.drop (k + 1)).map nb) := Lib.hid (by rw [List.map_drop, HLL.out, List.map_drop])
              have hck : c = k + 1 ∨ ¬ c = k + 1 := by omega
              rcases hck with hck | hck
              rotate_left
              all_goals
                first
                  | (rw [if_neg hck] at HD0
                     have HD := Lib.hid HD0)
                  | (rw [if_pos hck] at HD0
                     have HD := Lib.hid HD0)
                clear HD0 hn5
              all_goals
                go_wp2_with (first
                  | (go_at_call 40; refine (copied_any _ _ _ (L.drop (k + 1)) (ws.drop (k + 1)) w4 (by first | exact HD.out | (have h8 := HD.out; rw [hck] at h8; exact h8) | (have h8 := HD.out; simp only [hck, Nat.sub_self] at h8 ⊢; exact h8)) HDM.out (fun b hb => (HR.out.len b (List.mem_of_mem_drop hb)).2) (by omega)).mono ?_
                     rintro e w5 ⟨A5, c5, own5, rfl, hb5, ho5, hm5⟩
                     rw [HDL.out, ← HN5.out] at ho5 ⊢
                     have HO5 : Hid (OO w5 w.heap.size (.slice A5 n5 c5) own5) := Lib.hid (ho5.lower HY4.out.size)
                     have HO4b := Lib.hid (HO4.out.onb hb5)
                     have HY5 := Lib.hid (HY4.out.trans (hb5.mono HY4.out.size))
                     have HNO : Hid (own5.length = n5) := Lib.hid (by rw [maps_len hm5, HDL.out, HN5.out])
                     have HM5 := Lib.hid hm5
                     clear hb5 ho5 hm5)
                  | (refine wpList_append_src rfl (.tmp 93) (.tmp 98) 53 rfl w.heap.size 28 i0 _ 1 24 Try.underlying53 hi0 hz0 hz1 hz2 rfl (by omega) (.slice A4 (k + 2) c4) (k + 2) (own4.map Ar.v) rfl ((by have := HO4b.out.row; rw [HN4.out] at this; exact this : Mid w5 w.heap.size 28 1 (.slice A4 (k + 2) c4) (k + 2) (own4.map Ar.v))) w5.heap.size A5 n5 c5 (own5.map Ar.v) rfl (by have := HO5.out.row; rw [HNO.out] at this; exact this.readsv) (oneV own5) (by unfold maxLen; omega) (by omega) HY5.out.size ?_
                     intro v6 w6 hmm hran
                     have HO6 : Hid (OO w6 w.heap.size v6 (own4 ++ own5)) := Lib.hid (OO.append (V := .slice A4 (k + 2) c4) HO4b.out HO5.out.els (by rw [HN4.out, HNO.out]; exact hmm) hran)
                     have HY6 : Hid (Below w.heap.size w w6) := Lib.hid (HY5.out.grown hran.grown HY5.out.size (fun g hg => (HO4b.out.row.lt g (by first | exact hg | (rw [HN4.out]; exact hg))).1))
                     obtain ⟨A6, c6, e6⟩ := hmm.form
                     subst e6
                     clear hmm hran)
                  | fail)
                go_ret2
                have HLE : L2.length = k + 2 + n5 := by rw [HP.out, List.length_append, HDL.out, ← HN5.out, ← maps_len HL4.out, HN4.out]
                refine ⟨A6, c6, own4 ++ own5, by rw [HLE]; rfl, HY6.out, ?_, by rw [HP.out, List.map_append, List.map_append, HL4.out, HM5.out]⟩
                rw [HLE]
                exact HO6.out
end Go.Proofs.Ytokjeglhmmijfaa
