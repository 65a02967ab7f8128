/-
  The reference's Remove; conditions: lengths.
-/
import Derived.Test.YtokjeglhmmijfaaPsx
namespace Go.Proofs.Ytokjeglhmmijfaa
open Go.RowKit Go.WideShapes Go.ChangeShapes
set_option linter.all false
theorem set_parts {own : List Ar} {k n : Nat} (hn : own.length = n) (hk : k < n) (e : Ar) : own.set k e = own.take k ++ e :: own.drop (k + 1) := by
  rw [List.set_eq_take_append_cons_drop, if_pos (by omega)]
theorem OO.front {w : World} {N n c k d : Nat} {A : Option Addr} {own : List Ar} (h : OO w N (.slice A n c) own) (hn : own.length = n) (hk : k ≤ n) (hd : k ≤ d) (hdc : d ≤ c) : OO w N (.slice A k d) (own.take k) := by
  have hr := h.row
  rw [hn] at hr
  refine ⟨?_, fun e he => h.els e (List.mem_of_mem_take he), h.le⟩
  rw [List.length_take, hn, Nat.min_eq_left hk, List.map_take]
  exact hr.front hk hd hdc
theorem OO.rest {w : World} {N n c k : Nat} {A : Option Addr} {own : List Ar} (h : OO w N (.slice A n c) own) (hn : own.length = n) (hk : k ≤ n) : Reads w w.heap.size 1 (if c = k then A else A.map (·.add k)) (n - k) ((own.drop k).map Ar.v) := by
  have hr := h.row
  rw [hn] at hr
  have := (hr.cut (k := k) hk).readsv
  rw [Nat.mul_one] at this
  rw [List.map_drop]
  exact this
theorem pe_take (P R : List Ar) (e : Ar) {k : Nat} (h : P.length = k) : (P ++ e :: R).take k = P := by rw [← h]; simp
theorem pe_drop (P R : List Ar) (e : Ar) {k : Nat} (h : P.length = k) : (P ++ e :: R).drop (k + 1) = R := by
  rw [← h, List.drop_append, List.drop_of_length_le (by omega)]
  simp
theorem OO.cell {w : World} {N n c k : Nat} {A : Option Addr} {own : List Ar} (h : OO w N (.slice A n c) own) (hn : own.length = n) (hk : k < n) : ∃ ad, A = some ad ∧ w.cell? (ad.add k) = some (own.getD k dA).v := by
  obtain ⟨ad, e, hc, _⟩ := (h.lk hn).at_ hk
  exact ⟨ad, e, hc⟩
theorem OO.swap {w : World} {N n c k : Nat} {A : Option Addr} {P R : List Ar} {e0 e : Ar} (hr : Mid w N 28 1 (.slice A n c) n ((P ++ e0 :: R).map Ar.v)) (hP : P.length = k) (hk : k < n) (hN : N ≤ w.heap.size) (hels : ∀ x ∈ P ++ e :: R, Mid w N 3 1 x.v x.n (ks .i64 x.l)) :
    ∃ ad v, A = some ad ∧ w.cell? (ad.add k) = some v ∧ w.frozen? (ad.add k) = false ∧ OO (w.setCell (ad.add k) e.v) N (.slice A n c) (P ++ e :: R) ∧ N ≤ (ad.add k).block := by
  obtain ⟨ad, v, e1, hc, hf, hm, h1, h2, h3, h4⟩ := hr.put hk e.v
  have hl : (P ++ e :: R).length = n := by have := hr.1; rw [List.length_map, List.length_append, List.length_cons] at this; rw [List.length_append, List.length_cons]; omega
  refine ⟨ad, v, e1, hc, hf, ⟨?_, fun x hx => (hels x hx).far_set (fun g hg hgb => (hels x hx).apart hr (by decide) g hg (by rw [h4, ← h3, hgb])) _, by simpa using hN⟩, by rw [h3]; exact h1⟩
  rw [hl]
  have hs : ((P ++ e0 :: R).map Ar.v).set k e.v = (P ++ e :: R).map Ar.v := by
    rw [List.map_append, List.map_append, List.map_cons, List.map_cons, List.set_append, List.length_map, if_neg (by omega), hP, Nat.sub_self, List.set_cons_zero]
  rw [hs] at hm
  exact hm
theorem pe_get (P R : List Ar) (e : Ar) {k : Nat} (h : P.length = k) : (P ++ e :: R).getD k dA = e := by
  rw [List.getD_eq_getElem?_getD, List.getElem?_append_right (by omega), h, Nat.sub_self]; rfl
theorem has_yes {x : Int} {l : List Nat} (h : hasB x l = true) : ∃ y ∈ l, (y : Int) = x := by unfold hasB at h; exact of_decide_eq_true h
theorem has_no {x : Int} {l : List Nat} (h : hasB x l = false) : ∀ y ∈ l, ¬ (y : Int) = x := by
  unfold hasB at h
  have := of_decide_eq_false h
  exact fun y hy e => this ⟨y, hy, e⟩
set_option maxRecDepth 100000 in
set_option maxHeartbeats 6400000 in
theorem refRem_any (A : Option Addr) (n c : Nat) (L : List (List Nat)) (ws : List Ar) (x : Int) (w : World) (h : LK .i64 w w.heap.size A n c ws) (hl : ws.map Ar.l = L.map nb) (hR : RL L) (hn : n ≤ 1000) (o : Bool) (ho : o = hasB x L.flatten) (L2 : List (List Nat)) (hL2 : L2 = if o = true then remL x.toNat L else L) :
    Calls Try.prog 26 #[.slice A n c, .int .i64 x] w (RefR L2 o w) := by
  obtain ⟨i0, hi0, hz0, hz1, hz2⟩ := info_parts info28
  obtain ⟨i1, hi1, hy0, hy1, hy2⟩ := info_parts infoI
  have hLn : L.length = n := by rw [← maps_len hl]; exact h.len
  have HK := Lib.hid h
  have HLL := Lib.hid hl
  have HR := Lib.hid hR
  have HLN := Lib.hid hLn
  have HO := Lib.hid ho
  have HL2 := Lib.hid hL2
  clear h hl ho hL2
  by_cases hn0 : n = 0
  · subst hn0
    obtain rfl : L = [] := List.eq_nil_of_length_eq_zero hLn
    obtain rfl : o = false := by rw [HO.out]; unfold hasB; exact decide_eq_false (by simp)
    obtain rfl : L2 = [] := by rw [HL2.out]; rfl
    clear HO HL2
    go_enter Try.func26, Try.ntmps26
    go_wp2
    go_ret2
    exact ⟨none, 0, [], rfl, Below.refl _ _, OO.nil _ _ (Nat.le_refl _), rfl⟩
  · have hL0 : L ≠ [] := fun e => by rw [e] at hLn; exact hn0 hLn.symm
    obtain ⟨k, hk⟩ : ∃ k, k = kOf x L := ⟨_, rfl⟩
    have hkn : k < n := by rw [hk, ← hLn]; exact kOf_lt hL0
    have hmem : L.getD k [] ∈ L := by rw [List.getD_eq_getElem?_getD, List.getElem?_eq_getElem (by omega)]; exact List.getElem_mem _
    obtain ⟨ad, rfl, g0, s0⟩ := HK.out.at_ hkn
    rw [HK.out.el HLL.out k hkn] at s0
    obtain ⟨e1, he1⟩ : ∃ e1, e1 = ws.getD k dA := ⟨_, rfl⟩
    rw [← he1] at g0 s0
    obtain ⟨B1, m1, d1, l1⟩ := e1
    have HEQ : Hid ((ws.getD k dA).v = .slice B1 m1 d1) := Lib.hid (by rw [← he1])
    replace g0 : _ = some (Value.slice B1 m1 d1) := g0
    replace s0 : SK .i64 w w.heap.size B1 m1 d1 (nb (L.getD k [])) := s0
    obtain ⟨b, hb⟩ : ∃ b, b = L.getD k [] := ⟨_, rfl⟩
    rw [← hb] at s0 hmem
    have hml : b.length = m1 := by have := s0.len; rwa [nb_len] at this
    have hb16 : m1 ≤ 16 := by rw [← hml]; exact (hR.len b hmem).2
    have HAS : Hid (ascB 0 b = true) := Lib.hid (hR.block hmem)
    have HKK := Lib.hid hk
    have HB3 : Hid (L.getD k [] = b) := Lib.hid hb.symm
    have HS := Lib.hid s0
    have HBL := Lib.hid hml
    have HMB := Lib.hid hmem
    have HG0 := Lib.hid g0
    have k0 : (0 : Int) ≤ k := by omega
    have hkz : (k : Int) < n := by omega
    have hneq : ((n : Int) == 0) = false := by first | (simp; done) | (simp; omega)
    clear hb hk he1 s0 hml hmem l1 hR hLn hL0 hn0
    go_enter Try.func26, Try.ntmps26
    go_upto_region 5 with (first
      | (go_at_call 41; refine (refAt_any _ n c L ws x _ HK.out HLL.out HR.out (by omega)).mono ?_; rintro e w1 ⟨rfl, rfl⟩; rw [← HKK.out])
      | fail)
    go_wp2
    clear g0
    go_loopw [7, 9, 22] (fun bb xv i v1 => ∃ (j : Nat) (V X : Value), bb = V ∧ xv = X ∧ i = .int .i64 j ∧ j ≤ m1 ∧ Hid (Mid v1 w.heap.size 3 1 V (outN x (b.take j)).length (ks .i64 (nb (outN x (b.take j))))) ∧ Hid (Below w.heap.size w v1)) (fun _ _ i _ => m1 - (intOf i).toNat)
    case atStart => exact ⟨0, _, _, rfl, rfl, rfl, Nat.zero_le _, Lib.hid (Mid.nil _ _ _ _), Lib.hid (Below.refl _ _)⟩
    case round =>
      obtain ⟨j, V, X, hV, hX, rfl, hj, HM, HY⟩ := hrel
      subst hV hX
      obtain ⟨A1, c1, e1⟩ := HM.out.form
      subst e1
      have j0 : (0 : Int) ≤ j := by omega
      by_cases hlt : j < m1
      · have hjl : j < b.length := by rw [HBL.out]; exact hlt
        have hts := take_succ' hjl
        obtain ⟨bd, rfl, hz0c⟩ := (HS.out.below HY.out).2.2.2.kat hlt
        rw [nb_get hjl] at hz0c
        obtain ⟨z, hz⟩ : ∃ z, z = b.getD j 0 := ⟨_, rfl⟩
        rw [← hz] at hts hz0c
        have hos := outN_snoc x (b.take j) z
        rw [← hts] at hos
        have HOS := Lib.hid hos
        obtain ⟨q, hq⟩ : ∃ q, q = (outN x (b.take j)).length := ⟨_, rfl⟩
        have hq9 : q ≤ 17 := by
          have : (outN x (b.take j)).length ≤ (b.take j).length := List.length_filter_le _ _
          rw [List.length_take] at this; omega
        rw [← hq] at HM ⊢
        have HQ := Lib.hid hq
        clear hts hz hq hjl hos
        by_cases hzx : (z : Int) = x
        · have hne1 : ((z : Int) != x) = false := by simp [hzx]
          have HX := Lib.hid hzx
          clear hzx
          go_wp2
          go_roundw
          case rel => exact ⟨j + 1, _, _, rfl, rfl, by go_num, by omega, by rw [HOS.out, if_pos HX.out, ← HQ.out]; exact HM, HY⟩
          case measure => simp only [intOf]; omega
        · have hne1 : ((z : Int) != x) = true := by simp [hzx]
          have HX := Lib.hid hzx
          clear hzx
          go_wp2_with (first
            | (refine wpList_append_mid rfl (.tmp 29) (.tmp 31) 28 rfl w.heap.size 3 i1 _ 1 8 Try.underlying28 hi1 hy0 hy1 hy2 rfl (by omega) (.slice A1 q c1) _ _ rfl (HM.out.alloc_ _) ⟨wr.heap.size, 0, none⟩ 1 1 [.int .i64 (z : Int)] rfl rfl (World.news_of_block (cs := #[.int .i64 (z : Int)]) (t := 3) (fr := (0, 0)) (heap_alloc_new wr _)) (by simp [Value.oneCell']) (by unfold maxLen; omega) (by omega) (by have := HY.out.size; simp; omega) ?_
               intro v1 w1 hmm hran
               have HY1 : Hid (Below w.heap.size w w1) := Lib.hid ((HY.out.trans ((below_alloc wr _).mono HY.out.size)).grown hran.grown (by have := HY.out.size; simp; omega) (fun g hg => (HM.out.lt g hg).1))
               have HM1 := Lib.hid hmm
               clear hmm hran)
            | fail)
          go_roundw
          case rel => exact ⟨j + 1, _, _, rfl, rfl, by go_num, by omega, Lib.hid (by rw [HOS.out, if_neg HX.out, List.length_append, ks_snoc, ← HQ.out]; exact HM1.out), HY1⟩
          case measure => simp only [intOf]; omega
      · obtain rfl : m1 = j := by omega
        have htk : b.take m1 = b := List.take_of_length_le (by rw [HBL.out]; exact Nat.le_refl _)
        rw [htk] at HM ⊢
        have g0 : wr.cell? (ad.add k) = some (.slice B1 m1 d1) := by
          obtain ⟨ad2, e2, g2, _⟩ := (HK.out.on HY.out).at_ hkn
          injection e2 with e2
          subst e2
          rw [HEQ.out] at g2
          exact g2
        obtain ⟨bf, hbf⟩ : ∃ bf, bf = outN x b := ⟨_, rfl⟩
        rw [← hbf] at HM ⊢
        obtain ⟨qf, hqf⟩ : ∃ qf, qf = bf.length := ⟨_, rfl⟩
        rw [← hqf] at HM ⊢
        have HBF := Lib.hid hbf
        have HQF := Lib.hid hqf
        clear hbf hqf htk hj hlt
        cases o with
        | false =>
          have hq1 : qf = m1 := by
            have h1 := has_no HO.out.symm
            rw [HQF.out, HBF.out, outN_id (fun y hy => h1 y (List.mem_flatten.2 ⟨b, HMB.out, hy⟩)), HBL.out]
          obtain rfl : L2 = L := by rw [HL2.out]; rfl
          clear HO HL2
          have hqe : ((qf : Int) == (m1 : Int)) = true := by simp [hq1]
          have HLN2 := HLN
          clear HLN hq1
          go_wp2_with (first
            | (go_at_call 40; refine (copied_any (some ad) n c L2 ws _ (HK.out.on HY.out) HLL.out (fun b hb => (HR.out.len b hb).2) (by omega)).mono ?_
               rintro e w1 hq
               obtain ⟨A9, c9, ws9, rfl, hb9, hk9, hl9⟩ := hq)
            | fail)
          go_ret2
          exact ⟨A9, c9, ws9, rfl, HY.out.trans (hb9.mono HY.out.size), hk9.lower HY.out.size, hl9⟩
        | true =>
          obtain ⟨y, hy1, rfl⟩ := has_yes HO.out.symm
          have hyb : y ∈ b := by rw [← HB3.out, HKK.out]; exact (mem_block HR.out hy1).2
          obtain ⟨hd1, hd2⟩ := outN_del HAS.out hyb
          have HBD : Hid (bf = delB y b) := Lib.hid (by rw [HBF.out, hd1])
          have hq1 : qf + 1 = m1 := by rw [HQF.out, HBD.out, hd2, HBL.out]
          have HL3 : Hid (L2 = remL y L) := Lib.hid (by rw [HL2.out]; rfl)
          have hqe : ((qf : Int) == (m1 : Int)) = false := by first | (simp; done) | (simp; omega)
          have HQ1 := Lib.hid hq1
          have hqf9 : qf ≤ 15 := by omega
          clear HO HL2 hd1 hd2 hyb hy1 HBF hq1
          go_upto_region 14 with (first
            | (go_at_call 40; refine (copied_apart (some ad) n c L ws _ (HK.out.on HY.out) HLL.out (fun b hb => (HR.out.len b hb).2) (by omega)).mono ?_
               rintro e w3 ⟨A3, c3, own3, rfl, hb3, ho3, hm3, hap3⟩
               rw [HLN.out] at ho3 ⊢
               have HN3 : Hid (own3.length = n) := Lib.hid (by rw [maps_len hm3]; exact HLN.out)
               have HO3 := Lib.hid ho3
               have HL3m := Lib.hid hm3
               have HAP := Lib.hid hap3
               have HM3 := Lib.hid (HM.out.onb hb3)
               have HMlt : Hid (∀ g, (Value.slice A1 qf c1).ownBlock = some g → g < wr.heap.size) := Lib.hid (fun g hg => (HM.out.lt g hg).2)
               have HY3 := Lib.hid (HY.out.trans (hb3.mono HY.out.size))
               clear hb3 ho3 hm3 hap3)
            | fail)
          obtain ⟨ad3, v3, e3, g3, f3, ho14, hN14, hkeep⟩ := (HO3.out.lower HY.out.size).put HN3.out hkn (e := ⟨A1, qf, c1, nb bf⟩) HM3.out
          subst e3
          have HY14 := Lib.hid (HY3.out.setCell hN14 (.slice A1 qf c1))
          have HMb : Hid (Mid (w3.setCell (ad3.add k) (.slice A1 qf c1)) w.heap.size 3 1 (.slice A1 qf c1) qf (ks .i64 (nb bf))) := Lib.hid (hkeep _ _ _ _ HM3.out)
          have HEL : Hid (∀ e ∈ own3, Mid (w3.setCell (ad3.add k) (.slice A1 qf c1)) wr.heap.size 3 1 e.v e.n (ks .i64 e.l)) := Lib.hid (fun e he => hkeep _ _ _ _ (HO3.out.els e he))
          have ho15 : OO (w3.setCell (ad3.add k) (.slice A1 qf c1)) w.heap.size (.slice (some ad3) n c3) (own3.set k ⟨A1, qf, c1, nb bf⟩) := ho14
          rw [set_parts HN3.out hkn] at ho15
          have HO15 := Lib.hid ho15
          clear ho14 ho15 hN14 hkeep
          obtain ⟨W, hW⟩ : ∃ W' : World, W' = w3.setCell (ad3.add k) (.slice A1 qf c1) := ⟨_, rfl⟩
          go_upto_region 15 with (fail)
          rw [← hW] at HY14 HMb HEL HO15 ⊢
          clear hW g3 f3
          obtain ⟨P, hP⟩ : ∃ P, P = own3.take k := ⟨_, rfl⟩
          obtain ⟨R, hR'⟩ : ∃ R, R = own3.drop (k + 1) := ⟨_, rfl⟩
          rw [← hP, ← hR'] at HO15
          have HPl : Hid (P.length = k) := Lib.hid (by rw [hP, List.length_take, HN3.out]; omega)
          have HRl : Hid (R.length = n - (k + 1)) := Lib.hid (by rw [hR', List.length_drop, HN3.out])
          have HPm : Hid (P.map Ar.l = (L.take k).map nb) := Lib.hid (by rw [hP, List.map_take, HL3m.out, List.map_take])
          have HRm : Hid (R.map Ar.l = (L.drop (k + 1)).map nb) := Lib.hid (by rw [hR', List.map_drop, HL3m.out, List.map_drop])
          have HPp := Lib.hid hP
          have HRr := Lib.hid hR'
          clear hP hR'
          have hnc3 : n ≤ c3 := by have := HO15.out.row; rw [show (P ++ (⟨A1, qf, c1, nb bf⟩ : Ar) :: R).length = n from by rw [List.length_append, List.length_cons, HPl.out, HRl.out]; omega] at this; exact this.caps.1
          have HLn : Hid ((P ++ (⟨A1, qf, c1, nb bf⟩ : Ar) :: R).length = n) := Lib.hid (by rw [List.length_append, List.length_cons, HPl.out, HRl.out]; omega)
          have hq0 : qf = 0 ∨ ¬ qf = 0 := by omega
          rcases hq0 with hq0 | hq0
          · subst hq0
            have hwk : IntKind.i64.wrap ((k : Int) + 1) = ((k + 1 : Nat) : Int) := by rw [IntWalk.i64_in _ (by omega)]; omega
            have hk2t : ((k : Int) + 2).toNat = k + 2 := by omega
            have hwk2 : IntKind.i64.wrap ((k : Int) + 2) = ((k + 2 : Nat) : Int) := by rw [IntWalk.i64_in _ (by omega)]; omega
            have hck : c3 = k + 1 ∨ ¬ c3 = k + 1 := by omega
            have HT : Hid ((P ++ (⟨A1, 0, c1, nb bf⟩ : Ar) :: R).take k = P) := Lib.hid (pe_take P R _ HPl.out)
            have HD : Hid ((P ++ (⟨A1, 0, c1, nb bf⟩ : Ar) :: R).drop (k + 1) = R) := Lib.hid (pe_drop P R _ HPl.out)
            rcases hck with hck | hck
            all_goals
              go_upto_region 16 with (fail)
              refine wp_region_K SX 0 (by kernel_rfl) ?_
              obtain ⟨Wd, hWd⟩ : ∃ Wd : World, Wd = W.drew := ⟨_, rfl⟩
              have HOd := Lib.hid (show OO Wd w.heap.size _ _ from by rw [hWd]; exact HO15.out.onb (below_drew W))
              have HYd : Hid (Below w.heap.size w Wd) := Lib.hid (by rw [hWd]; exact HY14.out.trans ((below_drew W).mono HY14.out.size))
              rw [← hWd]
              clear hWd
              refine wpAnyK_pure (i := 0) (oi := _) (v := ?_) (by rfl) (by kernel_rfl) (by intro _ _ _ h; exact h) (Or.inl ⟨by rfl, ?_⟩) ?_
              rotate_left 1
              · intro w' _
                go_simp
                try simp only [hwk, hwk2, hk2t, Int.toNat_natCast]
                repeat rw [if_pos (by omega)]
                try simp only [hck, if_true, if_false, if_pos, Nat.sub_self]
                all_goals with_reducible rfl
              simp only [Act.put, List.getElem_toArray, List.getElem_cons_zero, List.getElem_cons_succ, List.setIfInBounds_toArray, List.set_cons_zero, List.set_cons_succ]
              refine wpAnyK_pure (i := 1) (oi := _) (v := ?_) (by rfl) (by kernel_rfl) (by intro _ _ _ h; exact h) (Or.inl ⟨by rfl, ?_⟩) ?_
              rotate_left 1
              · intro w' _
                go_simp
                try simp only [hwk, hwk2, hk2t, Int.toNat_natCast]
                repeat rw [if_pos (by omega)]
                try simp only [hck, if_true, if_false, if_pos, Nat.sub_self]
                all_goals with_reducible rfl
              simp only [Act.put, List.getElem_toArray, List.getElem_cons_zero, List.getElem_cons_succ, List.setIfInBounds_toArray, List.set_cons_zero, List.set_cons_succ]
              refine wpAnyK_pure (i := 2) (oi := _) (v := ?_) (by rfl) (by kernel_rfl) (by intro _ _ _ h; exact h) (Or.inl ⟨by rfl, ?_⟩) ?_
              rotate_left 1
              · intro w' _
                go_simp
                try simp only [hwk, hwk2, hk2t, Int.toNat_natCast]
                repeat rw [if_pos (by omega)]
                try simp only [hck, if_true, if_false, if_pos, Nat.sub_self]
                all_goals with_reducible rfl
              simp only [Act.put, List.getElem_toArray, List.getElem_cons_zero, List.getElem_cons_succ, List.setIfInBounds_toArray, List.set_cons_zero, List.set_cons_succ]
              refine wpAnyK_pure (i := 3) (oi := _) (v := ?_) (by rfl) (by kernel_rfl) (by intro _ _ _ h; exact h) (Or.inl ⟨by rfl, ?_⟩) ?_
              rotate_left 1
              · intro w' _
                go_simp
                try simp only [hwk, hwk2, hk2t, Int.toNat_natCast]
                repeat rw [if_pos (by omega)]
                try simp only [hck, if_true, if_false, if_pos, Nat.sub_self]
                all_goals with_reducible rfl
              simp only [Act.put, List.getElem_toArray, List.getElem_cons_zero, List.getElem_cons_succ, List.setIfInBounds_toArray, List.set_cons_zero, List.set_cons_succ]
              refine wpAnyK_pure (i := 4) (oi := _) (v := ?_) (by rfl) (by kernel_rfl) (by intro _ _ _ h; exact h) (Or.inl ⟨by rfl, ?_⟩) ?_
              rotate_left 1
              · intro w' _
                go_simp
                try simp only [hwk, hwk2, hk2t, Int.toNat_natCast]
                repeat rw [if_pos (by omega)]
                try simp only [hck, if_true, if_false, if_pos, Nat.sub_self]
                all_goals with_reducible rfl
              simp only [Act.put, List.getElem_toArray, List.getElem_cons_zero, List.getElem_cons_succ, List.setIfInBounds_toArray, List.set_cons_zero, List.set_cons_succ]
              refine wpAnyK_pure (i := 5) (oi := _) (v := ?_) (by rfl) (by kernel_rfl) (by intro _ _ _ h; exact h) (Or.inl ⟨by rfl, ?_⟩) ?_
              rotate_left 1
              · intro w' _
                go_simp
                try simp only [hwk, hwk2, hk2t, Int.toNat_natCast]
                repeat rw [if_pos (by omega)]
                try simp only [hck, if_true, if_false, if_pos, Nat.sub_self]
                all_goals with_reducible rfl
              simp only [Act.put, List.getElem_toArray, List.getElem_cons_zero, List.getElem_cons_succ, List.setIfInBounds_toArray, List.set_cons_zero, List.set_cons_succ]
              refine wpAnyK_pure (i := 6) (oi := _) (v := ?_) (by rfl) (by kernel_rfl) (by intro _ _ _ h; exact h) (Or.inl ⟨by rfl, ?_⟩) ?_
              rotate_left 1
              · intro w' _
                go_simp
                try simp only [hwk, hwk2, hk2t, Int.toNat_natCast]
                repeat rw [if_pos (by omega)]
                try simp only [hck, if_true, if_false, if_pos, Nat.sub_self]
                all_goals with_reducible rfl
              simp only [Act.put, List.getElem_toArray, List.getElem_cons_zero, List.getElem_cons_succ, List.setIfInBounds_toArray, List.set_cons_zero, List.set_cons_succ]
              refine wpAnyK_pure (i := 7) (oi := _) (v := ?_) (by rfl) (by kernel_rfl) (by intro _ _ _ h; exact h) (Or.inl ⟨by rfl, ?_⟩) ?_
              rotate_left 1
              · intro w' _
                go_simp
                try simp only [hwk, hwk2, hk2t, Int.toNat_natCast]
                repeat rw [if_pos (by omega)]
                try simp only [hck, if_true, if_false, if_pos, Nat.sub_self]
                all_goals with_reducible rfl
              simp only [Act.put, List.getElem_toArray, List.getElem_cons_zero, List.getElem_cons_succ, List.setIfInBounds_toArray, List.set_cons_zero, List.set_cons_succ]
              refine wpAnyK_all (rs := [8]) (by kernel_rfl) (by simp) ?_
              intro ix hix
              simp only [List.mem_cons, List.not_mem_nil, or_false] at hix
              subst hix
              refine wpK_op (o := _) (by rfl) (fun K hK => ?_)
              have hsrc := HOd.out.rest HLn.out (k := k + 1) (by omega)
              rw [HD.out] at hsrc
              first
                | rw [if_neg hck] at hsrc
                | rw [if_pos hck] at hsrc
              have HSRC := Lib.hid hsrc
              have hfr := HOd.out.front HLn.out (k := k) (d := k) (by omega) (Nat.le_refl _) (by omega)
              rw [HT.out] at hfr
              have HFR := Lib.hid hfr
              have HFL : Hid (P.length = k) := Lib.hid (by rw [← HT.out, List.length_take, HLn.out]; omega)
              have HDL : Hid (R.length = n - (k + 1)) := Lib.hid (by rw [← HD.out, List.length_drop, HLn.out])
              clear hsrc hfr
              refine step_append_src (by rfl) _ _ _ (by rfl) w.heap.size 28 i0 _ 1 24 Try.underlying53 hi0 hz0 hz1 hz2 rfl (by omega) (.slice (some ad3) (k) (k)) (k) (List.map Ar.v (P)) (by rfl) (by have := HFR.out.row; rw [HFL.out] at this; exact this) Wd.heap.size _ (n - (k + 1)) _ (List.map Ar.v (R)) (by rfl) HSRC.out (oneV _) (by unfold maxLen; omega) (by omega) HYd.out.size ?_
              intro v4 w4 hmm hran
              have HY4 : Hid (Below w.heap.size w w4) := Lib.hid (HYd.out.grown hran.grown HYd.out.size (fun u hu => (HFR.out.row.lt u hu).1))
              have HO4 : Hid (OO w4 w.heap.size v4 (P ++ R)) := Lib.hid (OO.append (V := .slice (some ad3) (k) (k)) HFR.out (fun e he => HOd.out.els e (by rw [← HD.out] at he; exact List.mem_of_mem_drop he)) (by rw [HFL.out, HDL.out]; exact hmm) hran)
              obtain ⟨A4, c4, e4⟩ := hmm.form
              subst e4
              clear hmm hran
              refine hK _ _ (fun _ _ => trivial) ?_
              clear hK K
              try simp only [Act.put, List.getElem_toArray, List.getElem_cons_zero, List.getElem_cons_succ, List.setIfInBounds_toArray, List.set_cons_zero, List.set_cons_succ]
              refine wpAnyK_all (rs := [9]) (by kernel_rfl) (by simp) ?_
              intro ix hix
              simp only [List.mem_cons, List.not_mem_nil, or_false] at hix
              subst hix
              refine wpK_op (o := _) (by rfl) (fun K hK => ?_)
              go_simp
              refine hK _ _ (fun _ _ => trivial) ?_
              clear hK K
              try simp only [Act.put, List.getElem_toArray, List.getElem_cons_zero, List.getElem_cons_succ, List.setIfInBounds_toArray, List.set_cons_zero, List.set_cons_succ]
              refine wpAnyK_all (rs := [10]) (by kernel_rfl) (by simp) ?_
              intro ix hix
              simp only [List.mem_cons, List.not_mem_nil, or_false] at hix
              subst hix
              refine wpK_op (o := _) (by rfl) (fun K hK => ?_)
              go_simp
              refine hK _ _ (fun _ _ => trivial) ?_
              clear hK K
              try simp only [Act.put, List.getElem_toArray, List.getElem_cons_zero, List.getElem_cons_succ, List.setIfInBounds_toArray, List.set_cons_zero, List.set_cons_succ]
              refine wpAnyK_done (by kernel_rfl) ?_ _
              go_wp2
              go_ret2
              have hLm : L2.map nb = P.map Ar.l ++ R.map Ar.l := by
                rw [HL3.out, HPm.out, HRm.out, ← List.map_append]
                congr 1
                unfold remL
                simp only []
                rw [← HKK.out, HB3.out, ← HBD.out, if_pos HQF.out.symm]
              have hLl : L2.length = k + (n - (k + 1)) := by
                have := congrArg List.length hLm
                rw [List.length_map, List.length_append, List.length_map, List.length_map, HPl.out, HRl.out] at this
                exact this
              refine ⟨A4, c4, P ++ R, by rw [hLl]; rfl, HY4.out, ?_, by rw [List.map_append]; exact hLm.symm⟩
              rw [hLl]
              exact HO4.out
          · have hqi : ((qf : Int) == 0) = false := by first | (simp; done) | (simp; omega)
            have hln : L.length = n := HLN.out
            clear hln
            by_cases hkl : k + 1 < n
            · obtain ⟨e2, R2, hR2⟩ : ∃ e2 R2, R = e2 :: R2 := by
                cases R with
                | nil => have := HRl.out; simp at this; omega
                | cons e2 R2 => exact ⟨e2, R2, rfl⟩
              obtain ⟨ad4, e4, g4⟩ := HO15.out.cell HLn.out hkl
              injection e4 with e4
              subst e4
              have hget : (P ++ (⟨A1, qf, c1, nb bf⟩ : Ar) :: R).getD (k + 1) dA = e2 := by
                rw [hR2]
                have := pe_get (P ++ [(⟨A1, qf, c1, nb bf⟩ : Ar)]) R2 e2 (k := k + 1) (by rw [List.length_append, HPl.out]; rfl)
                simpa using this
              rw [hget] at g4
              have hl2 : e2.l = nb (L.getD (k + 1) []) := by
                have h1 := HRm.out
                rw [hR2, List.map_cons] at h1
                have h2 : L.drop (k + 1) = L.getD (k + 1) [] :: L.drop (k + 1 + 1) := by
                  rw [List.drop_eq_getElem_cons (by rw [HLN.out]; exact hkl), List.getD_eq_getElem?_getD, List.getElem?_eq_getElem (by rw [HLN.out]; exact hkl)]; rfl
                rw [h2, List.map_cons] at h1
                exact (List.cons.inj h1).1
              have hmE := HEL.out e2 (by
                have h1 := HRr.out
                exact List.mem_of_mem_drop (by rw [← h1, hR2]; exact List.mem_cons_self))
              have hlen2 : (L.getD (k + 1) []).length ≤ 16 := (HR.out.len _ (by rw [List.getD_eq_getElem?_getD, List.getElem?_eq_getElem (by rw [HLN.out]; exact hkl)]; exact List.getElem_mem _)).2
              obtain ⟨E2, m2, d2, l2⟩ := e2
              obtain rfl : l2 = nb (L.getD (k + 1) []) := hl2
              replace g4 : _ = some (Value.slice E2 m2 d2) := g4
              have hmE : Mid W wr.heap.size 3 1 (.slice E2 m2 d2) m2 (ks .i64 (nb (L.getD (k + 1) []))) := hmE
              have hml2 : (L.getD (k + 1) []).length = m2 := by have := hmE.sk.len; rwa [nb_len] at this
              have HME := Lib.hid hmE
              have HML := Lib.hid hml2
              have hm29 : m2 ≤ 16 := by omega
              have hm2i : (m2 : Int) ≤ 16 := by omega
              have hki : (k : Int) + 1 < n := by omega
              have g4b : W.cell? ⟨ad3.block, ad3.off + (k + 1), none⟩ = some (Value.slice E2 m2 d2) := g4
              have HRE := Lib.hid hR2
              clear hget hmE hml2 hlen2 hR2
              by_cases hsum : qf + m2 ≤ 16
              · have hsi : (qf : Int) + m2 ≤ 16 := by omega
                go_upto_region 18 with (fail)
                go_upto_region 19 with (first
                  | (refine wpList_append_src rfl (.tmp 83) (.tmp 88) 28 rfl w.heap.size 3 i1 _ 1 8 Try.underlying28 hi1 hy0 hy1 hy2 rfl (by omega) (.slice A1 qf c1) qf _ rfl HMb.out W.heap.size E2 m2 d2 (ks .i64 (nb (L.getD (k + 1) []))) rfl HME.out.sk.2.2.2 (ks_one _ _) (by unfold maxLen; omega) (by omega) HY14.out.size ?_
                     intro v7 w7 hmm hran
                     have hr15 := HO15.out.row
                     rw [HLn.out] at hr15
                     have hr7 := hr15.on_ran HMb.out (by decide) hran
                     have HY7 : Hid (Below w.heap.size w w7) := Lib.hid (HY14.out.grown hran.grown HY14.out.size (fun g hg => (HMb.out.lt g hg).1))
                     have hels : ∀ u ∈ own3, Mid w7 w.heap.size 3 1 u.v u.n (ks .i64 u.l) := fun u hu => ((HEL.out u hu).on_apart (fun g hg hb => by have h1 := ((HEL.out u hu).lt g hg).1; have h2 := HMlt.out g hb; omega) hran).lower HY.out.size
                     obtain ⟨A7, c7, e7⟩ := hmm.form
                     subst e7
                     rw [← ks_append, ← nb_append] at hmm
                     obtain ⟨eN, heN⟩ : ∃ eN : Ar, eN = ⟨A7, qf + m2, c7, nb (bf ++ L.getD (k + 1) [])⟩ := ⟨_, rfl⟩
                     obtain ⟨ad7, v7, e8, g7, f7, ho7, hN7⟩ := OO.swap (e := eN) hr7 HPl.out hkn HY7.out.size (fun u hu => by
                       rcases List.mem_append.1 hu with hu | hu
                       · exact hels u (by rw [HPp.out] at hu; exact List.mem_of_mem_take hu)
                       · rcases List.mem_cons.1 hu with rfl | hu
                         · rw [heN]; exact hmm
                         · exact hels u (by rw [HRr.out] at hu; exact List.mem_of_mem_drop hu))
                     injection e8 with e8
                     subst e8
                     have HY8 := Lib.hid (HY7.out.setCell hN7 eN.v)
                     have HO8 := Lib.hid ho7
                     have HEN := Lib.hid heN
                     rw [show eN.v = Value.slice A7 (qf + m2) c7 from by rw [heN]] at HY8 HO8
                     clear hmm hran hr15 hr7 hels ho7 hN7 heN)
                  | fail)
                obtain ⟨W8, hW8⟩ : ∃ W' : World, W' = w7.setCell (ad3.add k) (.slice A7 (qf + m2) c7) := ⟨_, rfl⟩
                rw [← hW8] at HY8 HO8
                try rw [← hW8]
                clear hW8 g7 f7
                have HL8 : Hid ((P ++ eN :: R).length = n) := Lib.hid (by rw [List.length_append, List.length_cons, HPl.out, HRl.out]; omega)
                have HT8 : Hid ((P ++ eN :: R).take (k + 1) = P ++ [eN]) := Lib.hid (by
                  have := pe_take (P ++ [eN]) R2 ⟨E2, m2, d2, nb (L.getD (k + 1) [])⟩ (k := k + 1) (by rw [List.length_append, HPl.out]; rfl)
                  rw [List.append_assoc] at this
                  rw [HRE.out]
                  exact this)
                have HD8 : Hid ((P ++ eN :: R).drop (k + 2) = R2) := Lib.hid (by
                  have := pe_drop (P ++ [eN]) R2 ⟨E2, m2, d2, nb (L.getD (k + 1) [])⟩ (k := k + 1) (by rw [List.length_append, HPl.out]; rfl)
                  rw [List.append_assoc] at this
                  rw [HRE.out]
                  exact this)
                have hwk : IntKind.i64.wrap ((k : Int) + 1) = ((k + 1 : Nat) : Int) := by rw [IntWalk.i64_in _ (by omega)]; omega
                have hk2t : ((k : Int) + 2).toNat = k + 2 := by omega
                have hwk2 : IntKind.i64.wrap ((k : Int) + 2) = ((k + 2 : Nat) : Int) := by rw [IntWalk.i64_in _ (by omega)]; omega
                have hck : c3 = k + 2 ∨ ¬ c3 = k + 2 := by omega
                rcases hck with hck | hck
                all_goals
                  refine wp_region_K SX 0 (by kernel_rfl) ?_
                  obtain ⟨Wd, hWd⟩ : ∃ Wd : World, Wd = W8.drew := ⟨_, rfl⟩
                  have HOd := Lib.hid (show OO Wd w.heap.size _ _ from by rw [hWd]; exact HO8.out.onb (below_drew W8))
                  have HYd : Hid (Below w.heap.size w Wd) := Lib.hid (by rw [hWd]; exact HY8.out.trans ((below_drew W8).mono HY8.out.size))
                  rw [← hWd]
                  clear hWd
                  refine wpAnyK_pure (i := 0) (oi := _) (v := ?_) (by rfl) (by kernel_rfl) (by intro _ _ _ h; exact h) (Or.inl ⟨by rfl, ?_⟩) ?_
                  rotate_left 1
                  · intro w' _
                    go_simp
                    try simp only [hwk, hwk2, hk2t, Int.toNat_natCast]
                    repeat rw [if_pos (by omega)]
                    try simp only [hck, if_true, if_false, if_pos, Nat.sub_self]
                    all_goals with_reducible rfl
                  simp only [Act.put, List.getElem_toArray, List.getElem_cons_zero, List.getElem_cons_succ, List.setIfInBounds_toArray, List.set_cons_zero, List.set_cons_succ]
                  refine wpAnyK_pure (i := 1) (oi := _) (v := ?_) (by rfl) (by kernel_rfl) (by intro _ _ _ h; exact h) (Or.inl ⟨by rfl, ?_⟩) ?_
                  rotate_left 1
                  · intro w' _
                    go_simp
                    try simp only [hwk, hwk2, hk2t, Int.toNat_natCast]
                    repeat rw [if_pos (by omega)]
                    try simp only [hck, if_true, if_false, if_pos, Nat.sub_self]
                    all_goals with_reducible rfl
                  simp only [Act.put, List.getElem_toArray, List.getElem_cons_zero, List.getElem_cons_succ, List.setIfInBounds_toArray, List.set_cons_zero, List.set_cons_succ]
                  refine wpAnyK_pure (i := 2) (oi := _) (v := ?_) (by rfl) (by kernel_rfl) (by intro _ _ _ h; exact h) (Or.inl ⟨by rfl, ?_⟩) ?_
                  rotate_left 1
                  · intro w' _
                    go_simp
                    try simp only [hwk, hwk2, hk2t, Int.toNat_natCast]
                    repeat rw [if_pos (by omega)]
                    try simp only [hck, if_true, if_false, if_pos, Nat.sub_self]
                    all_goals with_reducible rfl
                  simp only [Act.put, List.getElem_toArray, List.getElem_cons_zero, List.getElem_cons_succ, List.setIfInBounds_toArray, List.set_cons_zero, List.set_cons_succ]
                  refine wpAnyK_pure (i := 3) (oi := _) (v := ?_) (by rfl) (by kernel_rfl) (by intro _ _ _ h; exact h) (Or.inl ⟨by rfl, ?_⟩) ?_
                  rotate_left 1
                  · intro w' _
                    go_simp
                    try simp only [hwk, hwk2, hk2t, Int.toNat_natCast]
                    repeat rw [if_pos (by omega)]
                    try simp only [hck, if_true, if_false, if_pos, Nat.sub_self]
                    all_goals with_reducible rfl
                  simp only [Act.put, List.getElem_toArray, List.getElem_cons_zero, List.getElem_cons_succ, List.setIfInBounds_toArray, List.set_cons_zero, List.set_cons_succ]
                  refine wpAnyK_pure (i := 4) (oi := _) (v := ?_) (by rfl) (by kernel_rfl) (by intro _ _ _ h; exact h) (Or.inl ⟨by rfl, ?_⟩) ?_
                  rotate_left 1
                  · intro w' _
                    go_simp
                    try simp only [hwk, hwk2, hk2t, Int.toNat_natCast]
                    repeat rw [if_pos (by omega)]
                    try simp only [hck, if_true, if_false, if_pos, Nat.sub_self]
                    all_goals with_reducible rfl
                  simp only [Act.put, List.getElem_toArray, List.getElem_cons_zero, List.getElem_cons_succ, List.setIfInBounds_toArray, List.set_cons_zero, List.set_cons_succ]
                  refine wpAnyK_pure (i := 5) (oi := _) (v := ?_) (by rfl) (by kernel_rfl) (by intro _ _ _ h; exact h) (Or.inl ⟨by rfl, ?_⟩) ?_
                  rotate_left 1
                  · intro w' _
                    go_simp
                    try simp only [hwk, hwk2, hk2t, Int.toNat_natCast]
                    repeat rw [if_pos (by omega)]
                    try simp only [hck, if_true, if_false, if_pos, Nat.sub_self]
                    all_goals with_reducible rfl
                  simp only [Act.put, List.getElem_toArray, List.getElem_cons_zero, List.getElem_cons_succ, List.setIfInBounds_toArray, List.set_cons_zero, List.set_cons_succ]
                  refine wpAnyK_pure (i := 6) (oi := _) (v := ?_) (by rfl) (by kernel_rfl) (by intro _ _ _ h; exact h) (Or.inl ⟨by rfl, ?_⟩) ?_
                  rotate_left 1
                  · intro w' _
                    go_simp
                    try simp only [hwk, hwk2, hk2t, Int.toNat_natCast]
                    repeat rw [if_pos (by omega)]
                    try simp only [hck, if_true, if_false, if_pos, Nat.sub_self]
                    all_goals with_reducible rfl
                  simp only [Act.put, List.getElem_toArray, List.getElem_cons_zero, List.getElem_cons_succ, List.setIfInBounds_toArray, List.set_cons_zero, List.set_cons_succ]
                  refine wpAnyK_pure (i := 7) (oi := _) (v := ?_) (by rfl) (by kernel_rfl) (by intro _ _ _ h; exact h) (Or.inl ⟨by rfl, ?_⟩) ?_
                  rotate_left 1
                  · intro w' _
                    go_simp
                    try simp only [hwk, hwk2, hk2t, Int.toNat_natCast]
                    repeat rw [if_pos (by omega)]
                    try simp only [hck, if_true, if_false, if_pos, Nat.sub_self]
                    all_goals with_reducible rfl
                  simp only [Act.put, List.getElem_toArray, List.getElem_cons_zero, List.getElem_cons_succ, List.setIfInBounds_toArray, List.set_cons_zero, List.set_cons_succ]
                  refine wpAnyK_pure (i := 8) (oi := _) (v := ?_) (by rfl) (by kernel_rfl) (by intro _ _ _ h; exact h) (Or.inl ⟨by rfl, ?_⟩) ?_
                  rotate_left 1
                  · intro w' _
                    go_simp
                    try simp only [hwk, hwk2, hk2t, Int.toNat_natCast]
                    repeat rw [if_pos (by omega)]
                    try simp only [hck, if_true, if_false, if_pos, Nat.sub_self]
                    all_goals with_reducible rfl
                  simp only [Act.put, List.getElem_toArray, List.getElem_cons_zero, List.getElem_cons_succ, List.setIfInBounds_toArray, List.set_cons_zero, List.set_cons_succ]
                  refine wpAnyK_pure (i := 9) (oi := _) (v := ?_) (by rfl) (by kernel_rfl) (by intro _ _ _ h; exact h) (Or.inl ⟨by rfl, ?_⟩) ?_
                  rotate_left 1
                  · intro w' _
                    go_simp
                    try simp only [hwk, hwk2, hk2t, Int.toNat_natCast]
                    repeat rw [if_pos (by omega)]
                    try simp only [hck, if_true, if_false, if_pos, Nat.sub_self]
                    all_goals with_reducible rfl
                  simp only [Act.put, List.getElem_toArray, List.getElem_cons_zero, List.getElem_cons_succ, List.setIfInBounds_toArray, List.set_cons_zero, List.set_cons_succ]
                  refine wpAnyK_all (rs := [10]) (by kernel_rfl) (by simp) ?_
                  intro ix hix
                  simp only [List.mem_cons, List.not_mem_nil, or_false] at hix
                  subst hix
                  refine wpK_op (o := _) (by rfl) (fun K hK => ?_)
                  have hsrc := HOd.out.rest HL8.out (k := k + 2) (by omega)
                  rw [HD8.out] at hsrc
                  first
                    | rw [if_neg hck] at hsrc
                    | rw [if_pos hck] at hsrc
                  have HSRC := Lib.hid hsrc
                  have hfr := HOd.out.front HL8.out (k := k + 1) (d := k + 1) (by omega) (Nat.le_refl _) (by omega)
                  rw [HT8.out] at hfr
                  have HFR := Lib.hid hfr
                  have HFL : Hid ((P ++ [eN]).length = k + 1) := Lib.hid (by rw [← HT8.out, List.length_take, HL8.out]; omega)
                  have HDL : Hid (R2.length = n - (k + 2)) := Lib.hid (by rw [← HD8.out, List.length_drop, HL8.out])
                  clear hsrc hfr
                  refine step_append_src (by rfl) _ _ _ (by rfl) w.heap.size 28 i0 _ 1 24 Try.underlying53 hi0 hz0 hz1 hz2 rfl (by omega) (.slice (some ad3) (k + 1) (k + 1)) (k + 1) (List.map Ar.v ((P ++ [eN]))) (by rfl) (by have := HFR.out.row; rw [HFL.out] at this; exact this) Wd.heap.size _ (n - (k + 2)) _ (List.map Ar.v (R2)) (by rfl) HSRC.out (oneV _) (by unfold maxLen; omega) (by omega) HYd.out.size ?_
                  intro v4 w4 hmm hran
                  have HY4 : Hid (Below w.heap.size w w4) := Lib.hid (HYd.out.grown hran.grown HYd.out.size (fun u hu => (HFR.out.row.lt u hu).1))
                  have HO4 : Hid (OO w4 w.heap.size v4 ((P ++ [eN]) ++ R2)) := Lib.hid (OO.append (V := .slice (some ad3) (k + 1) (k + 1)) HFR.out (fun e he => HOd.out.els e (by rw [← HD8.out] at he; exact List.mem_of_mem_drop he)) (by rw [HFL.out, HDL.out]; exact hmm) hran)
                  obtain ⟨A4, c4, e4⟩ := hmm.form
                  subst e4
                  clear hmm hran
                  refine hK _ _ (fun _ _ => trivial) ?_
                  clear hK K
                  try simp only [Act.put, List.getElem_toArray, List.getElem_cons_zero, List.getElem_cons_succ, List.setIfInBounds_toArray, List.set_cons_zero, List.set_cons_succ]
                  refine wpAnyK_all (rs := [11]) (by kernel_rfl) (by simp) ?_
                  intro ix hix
                  simp only [List.mem_cons, List.not_mem_nil, or_false] at hix
                  subst hix
                  refine wpK_op (o := _) (by rfl) (fun K hK => ?_)
                  go_simp
                  refine hK _ _ (fun _ _ => trivial) ?_
                  clear hK K
                  try simp only [Act.put, List.getElem_toArray, List.getElem_cons_zero, List.getElem_cons_succ, List.setIfInBounds_toArray, List.set_cons_zero, List.set_cons_succ]
                  refine wpAnyK_all (rs := [12]) (by kernel_rfl) (by simp) ?_
                  intro ix hix
                  simp only [List.mem_cons, List.not_mem_nil, or_false] at hix
                  subst hix
                  refine wpK_op (o := _) (by rfl) (fun K hK => ?_)
                  go_simp
                  refine hK _ _ (fun _ _ => trivial) ?_
                  clear hK K
                  try simp only [Act.put, List.getElem_toArray, List.getElem_cons_zero, List.getElem_cons_succ, List.setIfInBounds_toArray, List.set_cons_zero, List.set_cons_succ]
                  refine wpAnyK_done (by kernel_rfl) ?_ _
                  go_wp2
                  go_ret2
                  have hR2m : R2.map Ar.l = (L.drop (k + 2)).map nb := by
                    have h1 := HRm.out
                    rw [HRE.out, List.map_cons] at h1
                    have h2 : L.drop (k + 1) = L.getD (k + 1) [] :: L.drop (k + 1 + 1) := by
                      rw [List.drop_eq_getElem_cons (by rw [HLN.out]; exact hkl), List.getD_eq_getElem?_getD, List.getElem?_eq_getElem (by rw [HLN.out]; exact hkl)]; rfl
                    rw [h2, List.map_cons] at h1
                    exact (List.cons.inj h1).2
                  have hLm : L2.map nb = (P ++ [eN]).map Ar.l ++ R2.map Ar.l := by
                    rw [HL3.out, hR2m, List.map_append, HPm.out]
                    unfold remL
                    simp only []
                    rw [← HKK.out, HB3.out, ← HBD.out, if_neg (by rw [← HQF.out]; exact hq0), if_pos (by rw [HLN.out]; exact hkl), if_pos (by rw [← HQF.out, HML.out]; exact hsum)]
                    rw [HEN.out]
                    simp
                  have hLl : L2.length = k + 1 + (n - (k + 2)) := by
                    have := congrArg List.length hLm
                    rw [List.length_map, List.length_append, List.length_map, List.length_map, HFL.out, HDL.out] at this
                    exact this
                  refine ⟨A4, c4, (P ++ [eN]) ++ R2, by rw [hLl]; rfl, HY4.out, ?_, by rw [List.map_append]; exact hLm.symm⟩
                  rw [hLl]
                  exact HO4.out
              · have hsi : ¬ (qf : Int) + m2 ≤ 16 := by omega
                have hkk : ((k : Int) + 1 == (n : Int)) = false := by first | (simp; done) | (simp; omega)
                go_wp2
                all_goals
                  go_ret2
                  have hLm : L2.map nb = P.map Ar.l ++ nb bf :: R.map Ar.l := by
                    rw [HL3.out, HPm.out, HRm.out]
                    unfold remL
                    simp only []
                    rw [← HKK.out, HB3.out, ← HBD.out, if_neg (by rw [← HQF.out]; exact hq0)]
                    rw [if_pos (by rw [HLN.out]; exact hkl), if_neg (by rw [← HQF.out, HML.out]; exact hsum)]
                    simp
                  have hLl : L2.length = n := by
                    have := congrArg List.length hLm
                    rw [List.length_map, List.length_append, List.length_cons, List.length_map, List.length_map, HPl.out, HRl.out] at this
                    omega
                  refine ⟨some ad3, c3, P ++ (⟨A1, qf, c1, nb bf⟩ : Ar) :: R, by first | (rw [hLl]; rfl) | (rw [hLl, hn1]; rfl) | (rw [hLl, hn1, hp]; rfl), HY14.out, ?_, by rw [List.map_append, List.map_cons]; exact hLm.symm⟩
                  rw [hLl]
                  exact HO15.out
            · have hn1 : n = k + 1 := by omega
              have hni : ¬ (k : Int) + 1 < n := by omega
              by_cases hk0 : k = 0
              · subst hk0
                go_wp2
                all_goals
                  go_ret2
                  have hLm : L2.map nb = P.map Ar.l ++ nb bf :: R.map Ar.l := by
                    rw [HL3.out, HPm.out, HRm.out]
                    unfold remL
                    simp only []
                    rw [← HKK.out, HB3.out, ← HBD.out, if_neg (by rw [← HQF.out]; exact hq0)]
                    rw [if_neg (by rw [HLN.out]; omega), if_neg (by omega)]
                    simp
                  have hLl : L2.length = n := by
                    have := congrArg List.length hLm
                    rw [List.length_map, List.length_append, List.length_cons, List.length_map, List.length_map, HPl.out, HRl.out] at this
                    omega
                  refine ⟨some ad3, c3, P ++ (⟨A1, qf, c1, nb bf⟩ : Ar) :: R, by first | (rw [hLl]; rfl) | (rw [hLl, hn1]; rfl) | (rw [hLl, hn1, hp]; rfl), HY14.out, ?_, by rw [List.map_append, List.map_cons]; exact hLm.symm⟩
                  rw [hLl]
                  exact HO15.out
              · obtain ⟨p, hp⟩ : ∃ p, k = p + 1 := ⟨k - 1, by omega⟩
                have hR0 : R = [] := List.eq_nil_of_length_eq_zero (by rw [HRl.out]; omega)
                have HR0 := Lib.hid hR0
                clear hR0
                have hkp : (0 : Int) < k := by omega
                have hkk : ((k : Int) + 1 == (n : Int)) = true := by simp; omega
                obtain ⟨P0, hP0⟩ : ∃ P0, P0 = P.take p := ⟨_, rfl⟩
                obtain ⟨ep, hep⟩ : ∃ ep, ep = P.getD p dA := ⟨_, rfl⟩
                have hPs : P = P0 ++ [ep] := by
                  have h1 : p < P.length := by rw [HPl.out]; omega
                  rw [hP0, hep, List.getD_eq_getElem?_getD, List.getElem?_eq_getElem h1]
                  have h2 := List.take_succ_eq_append_getElem h1
                  rw [List.take_of_length_le (by rw [HPl.out]; omega)] at h2
                  exact h2
                have hP0l : P0.length = p := by rw [hP0, List.length_take, HPl.out]; omega
                obtain ⟨ad4, e4, g4⟩ := HO15.out.cell HLn.out (show p < n by omega)
                injection e4 with e4
                subst e4
                have hget : (P ++ (⟨A1, qf, c1, nb bf⟩ : Ar) :: R).getD p dA = ep := by
                  rw [hPs, List.append_assoc]
                  exact pe_get P0 _ ep hP0l
                rw [hget] at g4
                have hmP : ep ∈ own3 := by
                  rw [hep, HPp.out]
                  have h1 : p < (own3.take k).length := by rw [← HPp.out, HPl.out]; omega
                  rw [List.getD_eq_getElem?_getD, List.getElem?_eq_getElem h1]
                  exact List.mem_of_mem_take (List.getElem_mem _)
                have hmE := HEL.out ep hmP
                have hlp : ep.l = nb (L.getD p []) := by
                  have h1 := HPm.out
                  have h3 : (L.take k) = L.take p ++ [L.getD p []] := by
                    have h4 : p < L.length := by rw [HLN.out]; omega
                    rw [hp, List.take_succ_eq_append_getElem h4, List.getD_eq_getElem?_getD, List.getElem?_eq_getElem h4]; rfl
                  rw [h3, hPs, List.map_append, List.map_append] at h1
                  have h5 := List.append_inj_right' h1 rfl
                  simpa using h5
                have hlenp : (L.getD p []).length ≤ 16 := (HR.out.len _ (by rw [List.getD_eq_getElem?_getD, List.getElem?_eq_getElem (by rw [HLN.out]; omega)]; exact List.getElem_mem _)).2
                obtain ⟨E2, m2, d2, l2⟩ := ep
                obtain rfl : l2 = nb (L.getD p []) := hlp
                replace g4 : _ = some (Value.slice E2 m2 d2) := g4
                have hmE : Mid W wr.heap.size 3 1 (.slice E2 m2 d2) m2 (ks .i64 (nb (L.getD p []))) := hmE
                have hml2 : (L.getD p []).length = m2 := by have := hmE.sk.len; rwa [nb_len] at this
                have HME := Lib.hid hmE
                have HML := Lib.hid hml2
                have hm29 : m2 ≤ 16 := by omega
                have HEP := Lib.hid hep
                have HPS := Lib.hid hPs
                have HP0 := Lib.hid hP0
                have HP0l := Lib.hid hP0l
                have hpz : IntKind.i64.wrap ((k : Int) - 1) = (p : Int) := by rw [IntWalk.i64_in _ (by omega)]; omega
                clear hget hmP hmE hml2 hlenp hep hPs hP0 hP0l
                by_cases hsum : m2 + qf ≤ 16
                · have hsi : (qf : Int) + m2 ≤ 16 := by omega
                  have HAPl : Hid (∀ u ∈ P0, ∀ g, u.v.ownBlock = some g → (Value.slice E2 m2 d2).ownBlock ≠ some g) := Lib.hid (by
                    intro u hu g hg
                    rw [HP0.out, HPp.out, List.take_take] at hu
                    obtain ⟨i, hi, rfl⟩ := List.mem_iff_getElem.1 hu
                    have hi2 : i < p := by rw [List.length_take] at hi; omega
                    have hj : p < own3.length := by rw [HN3.out]; omega
                    have h1 := HAP.out i p hi2 hj g
                    rw [List.getElem_take] at hg
                    rw [List.getD_eq_getElem?_getD, List.getElem?_eq_getElem (by omega)] at h1
                    have h2 : (own3.getD p dA).v = .slice E2 m2 d2 := by
                      have h3 := HEP.out
                      have h4 : (own3.take k).getD p dA = own3.getD p dA := by rw [List.getD_eq_getElem?_getD, List.getElem?_take, if_pos (by omega), ← List.getD_eq_getElem?_getD]
                      rw [HPp.out, h4] at h3
                      rw [← h3]
                    rw [h2] at h1
                    exact h1 hg)
                  go_upto_region 21 with (fail)
                  go_upto_region 22 with (first
                    | (refine wpList_append_src rfl (.tmp 131) (.tmp 132) 28 rfl w.heap.size 3 i1 _ 1 8 Try.underlying28 hi1 hy0 hy1 hy2 rfl (by omega) (.slice E2 m2 d2) m2 _ rfl (HME.out.lower HY.out.size) W.heap.size A1 qf c1 (ks .i64 (nb bf)) rfl HMb.out.sk.2.2.2 (ks_one _ _) (by unfold maxLen; omega) (by omega) HY14.out.size ?_
                       intro v7 w7 hmm hran
                       have hr15 := HO15.out.row
                       rw [HLn.out] at hr15
                       have hr7 := hr15.on_ran HME.out (by decide) hran
                       have HY7 : Hid (Below w.heap.size w w7) := Lib.hid (HY14.out.grown hran.grown HY14.out.size (fun g hg => Nat.le_trans HY.out.size (HME.out.lt g hg).1))
                       have hmb7 := HMb.out.on_apart (fun g hg hb => by have h1 := HMlt.out g hg; have h2 := (HME.out.lt g hb).1; omega) hran
                       have hels : ∀ u ∈ P0, Mid w7 w.heap.size 3 1 u.v u.n (ks .i64 u.l) := fun u hu => ((HEL.out u (by rw [HP0.out, HPp.out] at hu; exact List.mem_of_mem_take (List.mem_of_mem_take hu))).on_apart (HAPl.out u hu) hran).lower HY.out.size
                       obtain ⟨A7, c7, e7⟩ := hmm.form
                       subst e7
                       rw [← ks_append, ← nb_append] at hmm
                       obtain ⟨eN, heN⟩ : ∃ eN : Ar, eN = ⟨A7, m2 + qf, c7, nb (L.getD p [] ++ bf)⟩ := ⟨_, rfl⟩
                       rw [HPS.out, List.append_assoc] at hr7
                       obtain ⟨ad7, v7, e8, g7, f7, ho7, hN7⟩ := OO.swap (e := eN) hr7 HP0l.out (show p < n by omega) HY7.out.size (fun u hu => by
                         rcases List.mem_append.1 hu with hu | hu
                         · exact hels u hu
                         · rcases List.mem_cons.1 hu with rfl | hu
                           · rw [heN]; exact hmm
                           · rw [HR0.out] at hu
                             have hu2 : u = ⟨A1, qf, c1, nb bf⟩ := by simpa using hu
                             rw [hu2]; exact hmb7)
                       injection e8 with e8
                       subst e8
                       have HY8 := Lib.hid (HY7.out.setCell hN7 eN.v)
                       have HO8 := Lib.hid ho7
                       have HEN := Lib.hid heN
                       rw [show eN.v = Value.slice A7 (m2 + qf) c7 from by rw [heN]] at HY8 HO8
                       clear hmm hran hr15 hr7 hels ho7 hN7 heN hmb7)
                    | fail)
                  clear g7 f7
                  have HL8 : Hid ((P0 ++ eN :: ([(⟨A1, qf, c1, nb bf⟩ : Ar)] ++ R)).length = n) := Lib.hid (by rw [HR0.out, List.length_append, HP0l.out]; simp; omega)
                  have HT8 : Hid ((P0 ++ eN :: ([(⟨A1, qf, c1, nb bf⟩ : Ar)] ++ R)).take k = P0 ++ [eN]) := Lib.hid (by
                    have := pe_take (P0 ++ [eN]) R ⟨A1, qf, c1, nb bf⟩ (k := k) (by rw [List.length_append, HP0l.out, hp]; rfl)
                    rw [List.append_assoc] at this
                    exact this)
                  have hfr := (show OO _ w.heap.size (.slice (some ad3) n c3) (P0 ++ eN :: ([(⟨A1, qf, c1, nb bf⟩ : Ar)] ++ R)) from HO8.out).front HL8.out (k := k) (d := k) (by omega) (Nat.le_refl _) (by omega)
                  rw [HT8.out] at hfr
                  have HFR := Lib.hid hfr
                  have hkc : (k : Int) ≤ c3 := by omega
                  have hkc2 : k ≤ c3 := by omega
                  clear hfr
                  go_wp2
                  all_goals
                    go_ret2
                    have hP0m : P0.map Ar.l = (L.take p).map nb := by
                      rw [HP0.out, List.map_take, HPm.out, ← List.map_take, List.take_take, Nat.min_eq_left (by omega)]
                    have hLm : L2.map nb = (P0 ++ [eN]).map Ar.l := by
                      rw [HL3.out, List.map_append, hP0m]
                      unfold remL
                      simp only []
                      rw [← HKK.out, HB3.out, ← HBD.out, if_neg (by rw [← HQF.out]; exact hq0), if_neg (by rw [HLN.out]; omega), if_pos (by omega), if_pos (by rw [← HQF.out, show k - 1 = p from by omega, HML.out]; exact hsum)]
                      rw [List.drop_of_length_le (by rw [HLN.out]; omega), HEN.out, show k - 1 = p from by omega]
                      simp
                    have hLl : L2.length = k := by
                      have := congrArg List.length hLm
                      rw [List.length_map, List.length_map, List.length_append, HP0l.out] at this
                      rw [this, hp]; rfl
                    refine ⟨some ad3, k, P0 ++ [eN], by first | (rw [hLl]; rfl) | (rw [hLl, hp]; rfl), HY8.out, ?_, hLm.symm⟩
                    rw [hLl]
                    exact HFR.out
                · have hsi : ¬ (qf : Int) + m2 ≤ 16 := by omega
                  go_wp2
                  all_goals
                    go_ret2
                    have hLm : L2.map nb = P.map Ar.l ++ nb bf :: R.map Ar.l := by
                      rw [HL3.out, HPm.out, HRm.out]
                      unfold remL
                      simp only []
                      rw [← HKK.out, HB3.out, ← HBD.out, if_neg (by rw [← HQF.out]; exact hq0)]
                      rw [if_neg (by rw [HLN.out]; omega), if_pos (by omega), if_neg (by rw [← HQF.out, show k - 1 = p from by omega, HML.out]; exact hsum)]
                      simp
                    have hLl : L2.length = n := by
                      have := congrArg List.length hLm
                      rw [List.length_map, List.length_append, List.length_cons, List.length_map, List.length_map, HPl.out, HRl.out] at this
                      omega
                    refine ⟨some ad3, c3, P ++ (⟨A1, qf, c1, nb bf⟩ : Ar) :: R, by first | (rw [hLl]; rfl) | (rw [hLl, hn1]; rfl) | (rw [hLl, hn1, hp]; rfl), HY14.out, ?_, by rw [List.map_append, List.map_cons]; exact hLm.symm⟩
                    rw [hLl]
                    exact HO15.out
end Go.Proofs.Ytokjeglhmmijfaa
