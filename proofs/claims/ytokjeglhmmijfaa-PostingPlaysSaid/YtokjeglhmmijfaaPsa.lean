/-
  posting.with; conditions: right lists.
-/
import Derived.Test.YtokjeglhmmijfaaPs9
import Derived.StillTailTactics
namespace Go.Proofs.Ytokjeglhmmijfaa
open Go.RowKit Go.WideShapes Go.ChangeShapes
set_option linter.all false
theorem info66 : (Try.prog.info? 66).map (fun i => (i.zero, i.size, i.bytes)) = some (some (.slice none 0 0), 1, 24) := by kernel_rfl
theorem ar_one (ls : List Ar) : ∀ u ∈ ls.map Ar.v, u.oneCell' = true := by
  intro u hu
  obtain ⟨x, _, rfl⟩ := List.mem_map.1 hu
  rfl
def WithP (F : Nat → Prop) (L : List (List Nat)) (w : World) (e : Ending) (w' : World) : Prop := ∃ A c, e = .returned (.agg #[.slice A L.length c]) ∧ Below w.heap.size w w' ∧ PLF w' F A L.length c L
/-- What has been laid so far. -/
structure WI (F : Nat → Prop) (A : Option Addr) (n c : Nat) (w : World) (V : Value) (own : List Ar) (M : List (List Nat)) (wr : World) : Prop where
  box : W3 A n c V w wr
  ol : OL .u8 5 66 wr w.heap.size (w.heap.size + 3) V own
  ids : own.map Ar.l = M.map eb
  av : ∀ e ∈ own, Av F e.A e.n
section
variable {F : Nat → Prop} {n c : Nat} {A : Option Addr} {w wr w' : World} {V V' : Value} {own more : List Ar} {M M' : List (List Nat)}
theorem WI.row (h : WI F A n c w V own M wr) : Mid wr (w.heap.size + 3) 66 1 V own.length (own.map Ar.v) := h.ol.row
theorem WI.cells (h : WI F A n c w V own M wr) : wr.cell? ⟨w.heap.size + 2, 0, none⟩ = some V ∧ wr.cell? ⟨w.heap.size, 0, none⟩ = some (.slice A n c) :=
  ⟨by rw [cell_of h.box.b2]; rfl, by rw [cell_of h.box.b0]; rfl⟩
theorem WI.fr (h : WI F A n c w V own M wr) : wr.frozen? ⟨w.heap.size + 2, 0, none⟩ = false := frozen_of h.box.b2 0
theorem WI.on (h : WI F A n c w V own M wr) (hb : Below wr.heap.size wr w') : WI F A n c w V own M w' := ⟨h.box.on hb, h.ol.below hb, h.ids, h.av⟩
/-- Some more, and laid into the box. -/
theorem WI.app (h : WI F A n c w V own M wr) (he : ∀ e ∈ more, EK .u8 5 wr w.heap.size (w.heap.size + 3) e) (hv : ∀ e ∈ more, Av F e.A e.n) (hm : Mid w' (w.heap.size + 3) 66 1 V' (own.length + more.length) (own.map Ar.v ++ more.map Ar.v)) (hr : Ran V V' wr w') (hi : more.map Ar.l = M'.map eb) :
    WI F A n c w V' (own ++ more) (M ++ M') (w'.setCell ⟨w.heap.size + 2, 0, none⟩ V') :=
  ⟨(h.box.ran h.row hr).set V', (h.ol.app (by decide) he hm hr).far (by omega) (by omega) _, by rw [List.map_append, List.map_append, h.ids, hi], fun e he => by rcases List.mem_append.1 he with q | q; exact h.av e q; exact hv e q⟩
end
theorem map_take_l {ls : List Ar} {L : List (List Nat)} (h : ls.map Ar.l = L.map eb) (k : Nat) : (ls.take k).map Ar.l = (L.take k).map eb := by rw [List.map_take, List.map_take, h]
theorem map_drop_l {ls : List Ar} {L : List (List Nat)} (h : ls.map Ar.l = L.map eb) (k : Nat) : (ls.drop k).map Ar.l = (L.drop k).map eb := by rw [List.map_drop, List.map_drop, h]
theorem rv_take_map {w : World} {B n k : Nat} {A : Option Addr} {ls : List Ar} (h : Reads w B 1 A n (ls.map Ar.v)) (hk : k ≤ n) : Reads w B 1 A k ((ls.take k).map Ar.v) := by
  have := rv_take h hk
  rwa [← List.map_take] at this
theorem rv_drop_map {w : World} {B n k c : Nat} {A : Option Addr} {ls : List Ar} (h : Reads w B 1 A n (ls.map Ar.v)) (hk : k ≤ n) (hc : n ≤ c) : Reads w B 1 (if c = k then A else A.map (·.add k)) (n - k) ((ls.drop k).map Ar.v) := by
  have := h.cut hk hc
  rwa [Nat.mul_one, ← List.map_drop] at this
theorem W3.set_res {A : Option Addr} {n c : Nat} {V : Value} {w wr : World} (h : W3 A n c V w wr) (U : Value) : (wr.setCell ⟨w.heap.size + 1, 0, none⟩ U).heap[w.heap.size + 1]? = some (.cells #[U] 24 (0, 0)) := heap_set_one h.b1
set_option maxRecDepth 100000 in
set_option maxHeartbeats 3200000 in
theorem with_any (F : Nat → Prop) (A A' : Option Addr) (n c f t m c' : Nat) (L B : List (List Nat)) (bs : List Ar) (w : World) (hF : ∀ b, F b → b < w.heap.size) (h : PLF w F A n c L) (hn : n ≤ 1000000) (hf : f ≤ n) (ht : t ≤ n)
    (hB : LK .i64 w w.heap.size A' m c' bs) (hm : m ≤ 1000) (hbl : bs.map Ar.l = B.map nb) (hBr : ∀ b ∈ B, rightN b = true) :
    Calls Try.prog 33 #[plV A n c, .int .i64 f, .int .i64 t, .slice A' m c'] w (WithP F (L.take f ++ B ++ L.drop t) w) := by
  obtain ⟨i0, hi0, hz0, hz1, hz2⟩ := info_parts info66
  obtain ⟨M, hM⟩ : ∃ M, M = L.take f ++ B ++ L.drop t := ⟨_, rfl⟩
  rw [← hM]
  have HM := Lib.hid hM
  clear hM
  have HLL := Lib.hid h.len
  have hcap := h.cap
  obtain ⟨ls, hls, hlm, _, hlv⟩ := h
  have HLV := Lib.hid hlv
  have HLS := Lib.hid hls
  have HLM := Lib.hid hlm
  have HLSL := Lib.hid hls.len
  have HBB := Lib.hid hB
  have HBL := Lib.hid hbl
  have HBR := Lib.hid hBr
  have HBN : Hid (B.length = m) := Lib.hid (by have := congrArg List.length hbl; rw [List.length_map, List.length_map, hB.len] at this; exact this.symm)
  obtain ⟨wb, hwb⟩ : ∃ wb, ((w.alloc (.cells #[.slice A n c] 24)).alloc (.cells #[.slice none 0 0] 24)).alloc (.cells #[.slice none 0 0] 24) = wb := ⟨_, rfl⟩
  have HX : Hid (WI F A n c w (.slice none 0 0) [] [] wb) := Lib.hid (hwb ▸ ⟨W3.new A n c w, OL.nil _ (by omega) (by simp), rfl, by simp⟩)
  have HW := Lib.hid hwb
  have f1 : (0 : Int) ≤ f := by omega
  have f2 : (f : Int) ≤ c := by omega
  have t1 : (0 : Int) ≤ t := by omega
  have t2 : (t : Int) ≤ n := by omega
  have t3 : (n : Int) ≤ c := by omega
  have hc9 := hcap.2
  clear hls hlm hlv hB hbl hBr hwb
  unfold plV
  go_enter Try.func33, Try.ntmps33
  go_upto_region 2 with (fail)
  rw [HW.out]
  have h0 := HX.out.cells.1
  have h1 := HX.out.cells.2
  go_still_tail 6, (by kernel_rfl)
  refine wpList_append_src rfl (.tmp 13) (.tmp 17) 22 rfl (w.heap.size + 3) 66 i0 _ 1 24 Try.underlying22 hi0 hz0 hz1 hz2 rfl (by omega) (.slice none 0 0) 0 [] rfl (Mid.nil _ _ _ _) w.heap.size _ f c ((ls.take f).map Ar.v) rfl ((rv_take_map HLS.out.2.2.2.1 hf).below (HX.out.on (below_drew wb)).box.bel) (ar_one _) (by unfold maxLen; omega) (by omega) HX.out.box.lt ?_
  intro v2 w2 hm2 hr2
  obtain ⟨A2, c2, e2⟩ := hm2.form
  subst e2
  have hx2 := (HX.out.on (below_drew wb)).app (more := ls.take f) (M' := L.take f) (fun e he => .inl ((HLS.out.2.2.2.2 e (List.mem_of_mem_take he)).below (HX.out.on (below_drew wb)).box.bel)) (fun e he => HLV.out e (List.mem_of_mem_take he)) (by rw [List.length_take, HLSL.out, Nat.min_eq_left hf]; exact hm2) hr2 (map_take_l HLM.out f)
  have hb2 := (HX.out.on (below_drew wb)).box.ran (HX.out.on (below_drew wb)).row hr2
  have g2 : w2.cell? ⟨w.heap.size + 2, 0, none⟩ = some (.slice none 0 0) := by rw [cell_of hb2.b2]; rfl
  have r2 := frozen_of hb2.b2 0
  have HX2 := Lib.hid hx2
  clear hx2 hr2 hm2 hb2
  go_wp2
  have HX3 : Hid (∃ own, WI F A n c w (.slice A2 f c2) own (L.take f) (w2.setCell ⟨w.heap.size + 1 + 1, 0, none⟩ (.slice A2 f c2))) := Lib.hid ⟨_, by simpa using HX2.out⟩
  clear HX2 g2 r2 h0 h1
  go_loopw [11, 22] (fun _ i wr => ∃ j : Nat, i = .int .i64 j ∧ j ≤ m ∧ Hid (∃ V own, WI F A n c w V own (L.take f ++ B.take j) wr)) (fun _ i _ => m - (intOf i).toNat)
  case atStart => exact ⟨0, rfl, Nat.zero_le _, Lib.hid (by obtain ⟨own, h⟩ := HX3.out; exact ⟨_, own, by simpa using h⟩)⟩
  case round =>
    obtain ⟨j, rfl, hj, HI⟩ := hrel
    obtain ⟨V, own, hwi⟩ := HI.out
    obtain ⟨A1, c1, e1⟩ := hwi.row.form
    subst e1
    generalize hQ : own.length = q at *
    have HQ := Lib.hid hQ
    have HWI := Lib.hid hwi
    have hq9 : q ≤ 2000000 := by
      have := congrArg List.length hwi.ids
      rw [List.length_map, List.length_map, List.length_append, List.length_take, List.length_take, hQ] at this
      omega
    clear hwi hQ HI
    have h0 := HWI.out.cells.1
    have h1 := HWI.out.cells.2
    by_cases hlt : j < m
    · obtain ⟨ad, rfl, hc, hs⟩ := (HBB.out.below HWI.out.box.bel).at_ hlt
      obtain ⟨b, hb⟩ : ∃ b, b = B.getD j [] := ⟨_, rfl⟩
      have hjb : j < B.length := by rw [HBN.out]; exact hlt
      have el : (bs.getD j dA).l = nb b := by
        have := congrArg (fun l => l[j]?) HBL.out
        have hjs : j < bs.length := by rw [HBB.out.len]; exact hlt
        simp only [List.getElem?_map, List.getElem?_eq_getElem hjs, List.getElem?_eq_getElem hjb, Option.map_some, Option.some.injEq] at this
        rw [hb, List.getD_eq_getElem?_getD, List.getElem?_eq_getElem hjs, List.getD_eq_getElem?_getD, List.getElem?_eq_getElem hjb]
        exact this
      have HRB : Hid (rightN b = true) := Lib.hid (HBR.out b (by rw [hb]; exact getD_mem hjb))
      have HTB : Hid (L.take f ++ B.take j ++ [b] = L.take f ++ B.take (j + 1)) := Lib.hid (by
        rw [List.take_succ_eq_append_getElem hjb, hb, List.getD_eq_getElem?_getD, List.getElem?_eq_getElem hjb, List.append_assoc]; rfl)
      obtain ⟨e, he⟩ : ∃ e, e = bs.getD j dA := ⟨_, rfl⟩
      rw [← he] at hc hs el
      rw [el] at hs
      obtain ⟨Ae, ne, ce, le⟩ := e
      have HS := Lib.hid hs
      have j0 : (0 : Int) ≤ j := by omega
      have j1 : (j : Int) < m := by omega
      clear hb el he hs hjb
      go_wp2
      have hS : (fun w' : World => w'.cell? ⟨w.heap.size + 2, 0, none⟩ = some (.slice A1 q c1) ∧ w'.cell? ⟨w.heap.size, 0, none⟩ = some (.slice A n c)) wr.drew := ⟨h0, h1⟩
      refine wp_region_T (fun w' : World => w'.cell? ⟨w.heap.size + 2, 0, none⟩ = some (.slice A1 q c1) ∧ w'.cell? ⟨w.heap.size, 0, none⟩ = some (.slice A n c)) 7 (by kernel_rfl) ?_
      refine wpAnyT_take (i := 0) (oi := _) (v := ?_) (by rfl) (by kernel_rfl) (by intro _ _ _ h; exact h) hS (Or.inl ⟨by rfl, ?_⟩) ?_
      rotate_left 1
      · intro w' ⟨hl1, hl2⟩
        go_simp
        all_goals with_reducible rfl
      simp only [Act.put, List.setIfInBounds_toArray, List.set_cons_zero, List.set_cons_succ]
      refine wpAnyT_take (i := 1) (oi := _) (v := ?_) (by rfl) (by kernel_rfl) (by intro _ _ _ h; exact h) hS (Or.inl ⟨by rfl, ?_⟩) ?_
      rotate_left 1
      · intro w' ⟨hl1, hl2⟩
        go_simp
        all_goals with_reducible rfl
      simp only [Act.put, List.setIfInBounds_toArray, List.set_cons_zero, List.set_cons_succ]
      refine wpAnyT_take (i := 2) (oi := _) (v := ?_) (by rfl) (by kernel_rfl) (by intro _ _ _ h; exact h) hS (Or.inl ⟨by rfl, ?_⟩) ?_
      rotate_left 1
      · intro w' ⟨hl1, hl2⟩
        go_simp
        all_goals with_reducible rfl
      simp only [Act.put, List.setIfInBounds_toArray, List.set_cons_zero, List.set_cons_succ]
      refine wpAnyT_all (rs := [3]) (by kernel_rfl) (by simp) ?_
      intro ix hix
      simp only [List.mem_cons, List.not_mem_nil, or_false] at hix
      subst hix
      refine wpT_op (o := _) (by rfl) (fun K hK => ?_)
      go_simp
      go_at_call 32
      refine (enc_any Ae ne ce b _ ((HS.out.more HWI.out.box.bel.size).on (below_drew _)) HRB.out).mono ?_
      rintro e w4 ⟨A4, m4, c4, rfl, hb4, hm4⟩
      have HX4 := Lib.hid ((HWI.out.on (below_drew _)).on hb4)
      have HM4 := Lib.hid hm4
      have hS4 := HX4.out.cells
      clear hb4 hm4
      refine hK _ _ (fun _ => hS4) ?_
      clear hK K
      try simp only [Act.put, List.setIfInBounds_toArray, List.set_cons_zero, List.set_cons_succ]
      refine wpAnyT_all (rs := [4]) (by kernel_rfl) (by simp) ?_
      intro ix hix
      simp only [List.mem_cons, List.not_mem_nil, or_false] at hix
      subst hix
      refine wpT_op (o := _) (by rfl) (fun K hK => ?_)
      go_simp
      have HX5 := Lib.hid (HX4.out.on (below_alloc w4 (.cells #[.slice A4 m4 c4] 66)))
      have hS5 := HX5.out.cells
      refine hK _ _ (fun _ => hS5) ?_
      clear hK K
      try simp only [Act.put, List.setIfInBounds_toArray, List.set_cons_zero, List.set_cons_succ]
      refine wpAnyT_all (rs := [5]) (by kernel_rfl) (by simp) ?_
      intro ix hix
      simp only [List.mem_cons, List.not_mem_nil, or_false] at hix
      subst hix
      refine wpT_op (o := _) (by rfl) (fun K hK => ?_)
      refine step_append_mid (by rfl) _ _ _ (by rfl) (w.heap.size + 3) 66 i0 _ 1 24 Try.underlying22 hi0 hz0 hz1 hz2 rfl (by omega) (.slice A1 q c1) q (own.map Ar.v) (by rfl) (by have := HX5.out.row; rw [HQ.out] at this; exact this) ⟨w4.heap.size, 0, none⟩ 1 1 [.slice A4 m4 c4] (by rfl) (by rfl) (World.news_of_block (cs := #[.slice A4 m4 c4]) (t := 66) (fr := (0, 0)) (heap_alloc_new w4 _)) (by simp [Value.oneCell']) (by unfold maxLen; omega) (by omega) HX5.out.box.lt ?_
      intro v6 w6 hm6 hr6
      obtain ⟨A6, c6, e6⟩ := hm6.form
      subst e6
      have hx6 := HX5.out.app (more := [⟨A4, m4, c4, eb b⟩]) (M' := [b]) (fun e he => by rw [List.mem_singleton] at he; subst he; exact .inr ((HM4.out.lower HWI.out.box.lt).alloc_ _)) (fun e he => by rw [List.mem_singleton] at he; subst he; exact (HM4.out.lower HWI.out.box.lt).av (fun b hb => by have := hF b hb; omega)) (by rw [HQ.out]; exact hm6) hr6 rfl
      rw [HTB.out] at hx6
      have hb6 := HX5.out.box.ran HX5.out.row hr6
      have g6 : w6.cell? ⟨w.heap.size + 2, 0, none⟩ = some (.slice A1 q c1) := by rw [cell_of hb6.b2]; rfl
      have r6 := frozen_of hb6.b2 0
      have hS6 : (fun w' : World => w'.cell? ⟨w.heap.size + 2, 0, none⟩ = some (.slice A1 q c1) ∧ w'.cell? ⟨w.heap.size, 0, none⟩ = some (.slice A n c)) w6 := ⟨g6, by rw [cell_of hb6.b0]; rfl⟩
      have HX6 := Lib.hid hx6
      clear hx6 hr6 hm6 hb6
      refine hK _ _ (fun _ => hS6) ?_
      clear hK K
      try simp only [Act.put, List.setIfInBounds_toArray, List.set_cons_zero, List.set_cons_succ]
      refine wpAnyT_all (rs := [6]) (by kernel_rfl) (by simp) ?_
      intro ix hix
      simp only [List.mem_cons, List.not_mem_nil, or_false] at hix
      subst hix
      refine wpT_op (o := _) (by rfl) (fun K hK => ?_)
      go_simp
      refine hK _ _ (fun _ => hS6) ?_
      clear hK K
      try simp only [Act.put, List.setIfInBounds_toArray, List.set_cons_zero, List.set_cons_succ]
      refine wpAnyT_all (rs := [7]) (by kernel_rfl) (by simp) ?_
      intro ix hix
      simp only [List.mem_cons, List.not_mem_nil, or_false] at hix
      subst hix
      refine wpT_op (o := _) (by rfl) (fun K hK => ?_)
      go_simp
      refine hK _ _ (fun h => absurd h (by omega)) ?_
      clear hK K
      try simp only [Act.put, List.setIfInBounds_toArray, List.set_cons_zero, List.set_cons_succ]
      refine wpAnyT_done (by kernel_rfl) ?_ _
      go_wp2
      have HN : Hid (∃ V own, WI F A n c w V own (L.take f ++ B.take (j + 1)) (w6.setCell ⟨w.heap.size + 1 + 1, 0, none⟩ (.slice A6 (q + 1) c6))) := Lib.hid ⟨_, _, HX6.out⟩
      go_roundw
      case rel => exact ⟨j + 1, by go_num, by omega, HN⟩
      case measure => simp only [intOf]; omega
    · obtain rfl : m = j := by omega
      have HTB : Hid (L.take f ++ B.take m = L.take f ++ B) := Lib.hid (by rw [show B.take m = B from List.take_of_length_le (by rw [HBN.out]; exact Nat.le_refl _)])
      go_upto_region 8 with (fail)
      go_still_tail 6, (by kernel_rfl)
      refine wpList_append_src rfl (.tmp 35) (.tmp 39) 22 rfl (w.heap.size + 3) 66 i0 _ 1 24 Try.underlying22 hi0 hz0 hz1 hz2 rfl (by omega) (.slice A1 q c1) q (own.map Ar.v) rfl (by have := (HWI.out.on (below_drew wr)).row; rw [HQ.out] at this; exact this) w.heap.size _ (n - t) (c - t) ((ls.drop t).map Ar.v) rfl ((rv_drop_map HLS.out.2.2.2.1 ht hcap.1).below (HWI.out.on (below_drew wr)).box.bel) (ar_one _) (by unfold maxLen; omega) (by omega) HWI.out.box.lt ?_
      intro v7 w7 hm7 hr7
      obtain ⟨A7, c7, e7⟩ := hm7.form
      subst e7
      have hx7 := (HWI.out.on (below_drew wr)).app (more := ls.drop t) (M' := L.drop t) (fun e he => .inl ((HLS.out.2.2.2.2 e (List.mem_of_mem_drop he)).below (HWI.out.on (below_drew wr)).box.bel)) (fun e he => HLV.out e (List.mem_of_mem_drop he)) (by rw [List.length_drop, HLSL.out, HQ.out]; exact hm7) hr7 (map_drop_l HLM.out t)
      rw [HTB.out] at hx7
      have hb7 := (HWI.out.on (below_drew wr)).box.ran (HWI.out.on (below_drew wr)).row hr7
      have g7 : w7.cell? ⟨w.heap.size + 2, 0, none⟩ = some (.slice A1 q c1) := by rw [cell_of hb7.b2]; rfl
      have r7 := frozen_of hb7.b2 0
      have k7 : w7.cell? ⟨w.heap.size + 1, 0, none⟩ = some (.slice none 0 0) := by rw [cell_of hb7.b1]; rfl
      have s7 := frozen_of hb7.b1 0
      rw [← HM.out] at hx7
      have hqn : q + (n - t) = M.length := by
        have := congrArg List.length hx7.ids
        rw [List.length_map, List.length_map, List.length_append, HQ.out, List.length_drop, HLSL.out] at this
        exact this
      have HX7 := Lib.hid hx7
      have HQN := Lib.hid hqn
      clear hx7 hr7 hm7 hb7 h0 h1 hqn
      generalize hK : q + (n - t) = K at *
      clear hK
      go_wp2
      all_goals
        have hy := HX7.out
        have hf1 : ((w7.setCell ⟨w.heap.size + 1 + 1, 0, none⟩ (.slice A7 K c7)).setCell ⟨w.heap.size + 1, 0, none⟩ (.slice A7 K c7)).cell? ⟨w.heap.size + 1, 0, none⟩ = some (.slice A7 K c7) := by
          have := cell_of (hy.box.set_res (.slice A7 K c7)) 0
          exact this
        have hPL : PLF ((w7.setCell ⟨w.heap.size + 1 + 1, 0, none⟩ (.slice A7 K c7)).setCell ⟨w.heap.size + 1, 0, none⟩ (.slice A7 K c7)) F A7 K c7 M := by
          have hl : (own ++ ls.drop t).length = K := by have := congrArg List.length hy.ids; rw [List.length_map, List.length_map] at this; rw [this]; exact HQN.out.symm
          have ho := hy.ol.far (b := w.heap.size + 1) (by omega) (by omega) (.slice A7 K c7)
          refine ⟨_, ho.lk hl, hy.ids, ?_, hy.av⟩
          have hr := hy.row
          rw [hl] at hr
          exact hr.av (fun b hb => by have := hF b hb; omega)
        have hbel : Below w.heap.size w ((w7.setCell ⟨w.heap.size + 1 + 1, 0, none⟩ (.slice A7 K c7)).setCell ⟨w.heap.size + 1, 0, none⟩ (.slice A7 K c7)) := hy.box.bel.setCell (p := ⟨w.heap.size + 1, 0, none⟩) (Nat.le_succ _) (.slice A7 K c7)
        generalize (w7.setCell ⟨w.heap.size + 1 + 1, 0, none⟩ (.slice A7 K c7)).setCell ⟨w.heap.size + 1, 0, none⟩ (.slice A7 K c7) = w9 at *
        refine bodyPost_ret (v := .agg #[.slice A7 K c7]) (by simp [results, Try.results33, go_sem, hf1]) rfl ⟨A7, c7, by rw [← HQN.out], hbel, by rw [← HQN.out]; exact hPL⟩
end Go.Proofs.Ytokjeglhmmijfaa
