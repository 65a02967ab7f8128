/-
  The reference's copied once more: its blocks lie apart; stores into rows of the call's own; conditions: lengths.
-/
import Derived.Test.YtokjeglhmmijfaaPsw
namespace Go.Proofs.Ytokjeglhmmijfaa
open Go.RowKit Go.WideShapes Go.ChangeShapes
set_option linter.all false
/-- No two of these lie in one block. -/
def Apart (own : List Ar) : Prop := ∀ i j, i < j → j < own.length → ∀ g, (own.getD i dA).v.ownBlock = some g → (own.getD j dA).v.ownBlock ≠ some g
theorem Apart.nil : Apart [] := fun i j _ h => by simp at h
theorem Apart.snoc {own : List Ar} {e : Ar} {m : Nat} (h : Apart own) (hl : ∀ x ∈ own, ∀ g, x.v.ownBlock = some g → g < m) (he : ∀ g, e.v.ownBlock = some g → m ≤ g) : Apart (own ++ [e]) := by
  intro i j hij hj g hi hjg
  rw [List.length_append, List.length_singleton] at hj
  have ei : (own ++ [e]).getD i dA = own.getD i dA := by rw [List.getD_eq_getElem?_getD, List.getElem?_append_left (by omega), ← List.getD_eq_getElem?_getD]
  rw [ei] at hi
  rcases Nat.lt_or_ge j own.length with q | q
  · have ej : (own ++ [e]).getD j dA = own.getD j dA := by rw [List.getD_eq_getElem?_getD, List.getElem?_append_left q, ← List.getD_eq_getElem?_getD]
    rw [ej] at hjg
    exact h i j hij q g hi hjg
  · obtain rfl : j = own.length := by omega
    have ej : (own ++ [e]).getD own.length dA = e := by rw [List.getD_eq_getElem?_getD, List.getElem?_append_right (Nat.le_refl _), Nat.sub_self]; rfl
    rw [ej] at hjg
    have h1 := hl (own.getD i dA) (by rw [List.getD_eq_getElem?_getD, List.getElem?_eq_getElem (by omega)]; exact List.getElem_mem _) g hi
    have h2 := he g hjg
    omega
def BlksD (L : List (List Nat)) (w : World) (e : Ending) (w' : World) : Prop := ∃ A c own, e = .returned (.slice A L.length c) ∧ Below w.heap.size w w' ∧ OO w' w.heap.size (.slice A L.length c) own ∧ own.map Ar.l = L.map nb ∧ Apart own
theorem Mid.on_apart {w w' : World} {N n : Nat} {t : TypeId} {v V V' : Value} {xs : List Value} (h : Mid w N t 1 v n xs) (hne : ∀ g, v.ownBlock = some g → V.ownBlock ≠ some g) (hr : Ran V V' w w') : Mid w' N t 1 v n xs :=
  h.same fun g hg => hr.grown.block g (h.lt g hg).2 (fun e => hne g hg e.symm)
set_option maxRecDepth 100000 in
set_option maxHeartbeats 1600000 in
theorem copied_apart (A : Option Addr) (n c : Nat) (L : List (List Nat)) (ws : List Ar) (w : World) (h : LK .i64 w w.heap.size A n c ws) (hl : ws.map Ar.l = L.map nb) (h16 : ∀ b ∈ L, b.length ≤ 16) (hn : n ≤ 1000000) :
    Calls Try.prog 40 #[.slice A n c] w (BlksD L w) := by
  obtain ⟨i0, hi0, hz0, hz1, hz2⟩ := info_parts info28
  obtain ⟨i1, hi1, hy0, hy1, hy2⟩ := info_parts infoI
  have HK := Lib.hid h
  have HEL : Hid (∀ k, k < n → (ws.getD k dA).l = nb (L.getD k [])) := Lib.hid (fun k hk => h.el hl k hk)
  have HLN : Hid (L.length = n) := Lib.hid (by have := congrArg List.length hl; rw [List.length_map, List.length_map, h.len] at this; exact this.symm)
  clear h hl
  go_enter Try.func40, Try.ntmps40
  go_wp2
  go_loopw [3, 5, 8] (fun s _ i v1 => ∃ (j : Nat) (V : Value), i = .int .i64 j ∧ j ≤ n ∧ s = V ∧ Hid (Below w.heap.size w v1) ∧ Hid (∃ own : List Ar, own.length = j ∧ OO v1 w.heap.size V own ∧ own.map Ar.l = (L.take j).map nb ∧ Apart own)) (fun _ _ i _ => n - (intOf i).toNat)
  case atStart => exact ⟨0, _, rfl, Nat.zero_le _, rfl, Lib.hid (Below.refl _ _), Lib.hid ⟨[], rfl, OO.nil _ _ (Nat.le_refl _), by simp, Apart.nil⟩⟩
  case round =>
    obtain ⟨j, V, rfl, hj, hV, HY, HO⟩ := hrel
    subst hV
    obtain ⟨own, hol, hoo, hom, hap⟩ := HO.out
    have HAP := Lib.hid hap
    clear hap
    obtain ⟨A1, c1, e1⟩ := hoo.row.form
    rw [hol] at e1
    subst e1
    have j0 : (0 : Int) ≤ j := by omega
    by_cases hlt : j < n
    · have hjl : j < L.length := by rw [HLN.out]; exact hlt
      obtain ⟨ad, rfl, g0, s0⟩ := (HK.out.below HY.out).at_ hlt
      rw [HEL.out j hlt] at s0
      obtain ⟨e1, he1⟩ : ∃ e1, e1 = ws.getD j dA := ⟨_, rfl⟩
      rw [← he1] at g0 s0
      obtain ⟨B1, m1, d1, l1⟩ := e1
      replace g0 : _ = some (Value.slice B1 m1 d1) := g0
      replace s0 : SK .i64 wr w.heap.size B1 m1 d1 (nb (L.getD j [])) := s0
      obtain ⟨b, hb⟩ : ∃ b, b = L.getD j [] := ⟨_, rfl⟩
      rw [← hb] at s0
      have hml : b.length = m1 := by have := s0.len; rwa [nb_len] at this
      subst hml
      have HS := Lib.hid (s0.more HY.out.size)
      have hbl : b.length ≤ 16 := by rw [hb]; exact h16 _ (getD_mem hjl)
      have hcap : b.length ≤ maxLen := by have := s0.1; have := s0.2.1; omega
      have HN : Hid ((L.take j).map nb ++ [nb b] = (L.take (j + 1)).map nb) := Lib.hid (by
        rw [List.take_succ_eq_append_getElem hjl, hb, List.getD_eq_getElem?_getD, List.getElem?_eq_getElem hjl, List.map_append]; rfl)
      have HOO := Lib.hid hoo
      have HOM := Lib.hid hom
      have HOL := Lib.hid hol
      clear hb hjl he1 s0 hoo hom hol HO
      have HM0 : Hid (Mid (wr.alloc (.cells #[] 3)) wr.heap.size 3 1 (.slice (some ⟨wr.heap.size, 0, none⟩) 0 0) 0 []) := Lib.hid ⟨rfl, .inr ⟨_, 0, 0, #[], rfl, Nat.le_refl _, heap_alloc_new wr _, Nat.le_refl _, Nat.zero_le _, by simp, rfl⟩⟩
      have HS2 := Lib.hid (HS.out.below (below_alloc wr (.cells #[] 3)))
      go_wp2_with (first
        | (refine wpList_build0 rfl rfl ?_)
        | (refine wpList_append_src rfl (.tmp 13) (.tmp 14) 28 rfl wr.heap.size 3 i1 _ 1 8 Try.underlying28 hi1 hy0 hy1 hy2 rfl (by omega) (.slice (some ⟨wr.heap.size, 0, none⟩) 0 0) 0 _ rfl HM0.out wr.heap.size _ b.length d1 (ks .i64 (nb b)) rfl HS2.out.2.2.2 (ks_one _ _) (by omega) (by omega) (by simp) ?_
           intro v5 w5 hmm hran
           have HM5 := Lib.hid hmm
           have HR5 := Lib.hid hran
           clear hmm hran
           obtain ⟨A5, c5, e5⟩ := HM5.out.form
           subst e5
           have ew : (0 : Nat) + b.length = b.length := by omega
           rw [ew] at HM5 ⊢
           have HB5 : Hid (Below wr.heap.size wr w5) := Lib.hid ((below_alloc wr (.cells #[] 3)).grown HR5.out.grown (by simp) (fun g hg => by simp [Value.ownBlock] at hg; omega))
           clear ew)
        | (refine wpList_append_mid rfl (.tmp 12) (.tmp 16) 53 rfl w.heap.size 28 i0 _ 1 24 Try.underlying53 hi0 hz0 hz1 hz2 rfl (by omega) (.slice A1 j c1) _ _ rfl ((by have := HOO.out.row; rw [HOL.out] at this; exact this.onb HB5.out : Mid w5 w.heap.size 28 1 (.slice A1 j c1) j (own.map Ar.v)).alloc_ _) ⟨w5.heap.size, 0, none⟩ 1 1 [.slice A5 b.length c5] rfl rfl (World.news_of_block (cs := #[.slice A5 b.length c5]) (t := 28) (fr := (0, 0)) (heap_alloc_new w5 _)) (by simp [Value.oneCell']) (by unfold maxLen; omega) (by omega) (by have := HY.out.size; have := HB5.out.size; simp; omega) ?_
           intro v' w6 hmm hran
           have HMM := Lib.hid hmm
           have HRN := Lib.hid hran
           clear hmm hran)
        | fail)
      have HB6 : Hid (Below w.heap.size w w6) := Lib.hid (((HY.out.trans (HB5.out.mono HY.out.size)).trans ((below_alloc w5 _).mono (by have := HY.out.size; have := HB5.out.size; omega))).grown HRN.out.grown (by have := HY.out.size; have := HB5.out.size; simp; omega) (fun g hg => (HOO.out.row.lt g hg).1))
      have HF : Hid (∃ own' : List Ar, own'.length = j + 1 ∧ OO w6 w.heap.size v' own' ∧ own'.map Ar.l = (L.take (j + 1)).map nb ∧ Apart own') := Lib.hid (by
        have hoo5 := (HOO.out.onb HB5.out).onb (below_alloc w5 (.cells #[.slice A5 b.length c5] 28))
        refine ⟨own ++ [⟨A5, b.length, c5, nb b⟩], by rw [List.length_append, HOL.out]; rfl, ?_, by rw [List.map_append, HOM.out, ← HN.out]; rfl, HAP.out.snoc (fun e he g hg => (HOO.out.els e he).lt g hg |>.2) (fun g hg => (HM5.out.lt g hg).1)⟩
        refine OO.snoc (w := w5.alloc (.cells #[.slice A5 b.length c5] 28)) (V := .slice A1 j c1) hoo5 ?_ (by rw [HOL.out]; exact HMM.out) HRN.out
        have := HM5.out.alloc_ (.cells #[.slice A5 b.length c5] 28)
        rw [List.nil_append] at this
        exact this.lower HY.out.size)
      go_roundw
      case rel => exact ⟨j + 1, v', by go_num, by omega, rfl, HB6, HF⟩
      case measure => simp only [intOf]; omega
    · obtain rfl : n = j := by omega
      have HE : Hid (own.map Ar.l = L.map nb) := Lib.hid (by rw [hom, List.take_of_length_le (by rw [HLN.out]; exact Nat.le_refl _)])
      have HOO := Lib.hid hoo
      clear hom hoo HO
      go_wp2
      go_ret
      exact ⟨A1, c1, own, by rw [HLN.out]; rfl, HY.out, by rw [HLN.out]; exact HOO.out, HE.out, HAP.out⟩
theorem ext_set (cur : List Value) (off n k : Nat) (u : Value) (hk : k < n) (hs : off + n ≤ cur.length) : ((cur.set (off + k) u).drop off).take n = ((cur.drop off).take n).set k u := by
  apply List.ext_getElem?
  intro i
  rw [List.getElem?_take, List.getElem?_drop, List.getElem?_set, List.getElem?_set, List.getElem?_take, List.getElem?_drop]
  by_cases hi : i < n
  · rw [if_pos hi, if_pos hi]
    by_cases hik : k = i
    · subst hik
      rw [if_pos rfl, if_pos rfl, if_pos (by omega), if_pos (by rw [List.length_take, List.length_drop]; omega)]
    · rw [if_neg (by omega), if_neg hik]
  · rw [if_neg hi, if_neg hi, if_neg (by omega)]
theorem Mid.put {w : World} {N n c k : Nat} {t : TypeId} {A : Option Addr} {xs : List Value} (h : Mid w N t 1 (.slice A n c) n xs) (hk : k < n) (u : Value) :
    ∃ ad v, A = some ad ∧ w.cell? (ad.add k) = some v ∧ w.frozen? (ad.add k) = false ∧ Mid (w.setCell (ad.add k) u) N t 1 (.slice A n c) n (xs.set k u) ∧ N ≤ ad.block ∧ ad.block < w.heap.size ∧ (ad.add k).block = ad.block ∧ (Value.slice A n c).ownBlock = some ad.block := by
  rcases h.2 with ⟨h', h0⟩ | ⟨g, off, cap, cur, h', hg, hh, h1, h2, h3, h4⟩
  · omega
  · injection h' with h5 h6 h7
    subst h5 h7
    have hl := h.1
    rw [Nat.mul_one] at hl h3 h4
    have hz : cur.toList.length = cur.size := Array.length_toList
    have hlt : g < w.heap.size := by
      rcases Nat.lt_or_ge g w.heap.size with q | q
      · exact q
      · rw [Array.getElem?_eq_none q] at hh; cases hh
    have ea : (⟨g, off, none⟩ : Addr).add k = ⟨g, off + k, none⟩ := Addr.add_lit _ _ _
    have hc : w.cell? ⟨g, off + k, none⟩ = cur[off + k]? := cell_of hh _
    refine ⟨⟨g, off, none⟩, cur[off + k]'(by omega), rfl, by rw [ea, hc, Array.getElem?_eq_getElem], by rw [ea]; exact frozen_of hh _, ?_, hg, hlt, by rw [ea], rfl⟩
    rw [ea]
    refine ⟨by rw [List.length_set, hl]; omega, .inr ⟨g, off, c, cur.setIfInBounds (off + k) u, rfl, hg, heap_setCell_same w g (off + k) cur t u hh, h1, h2, by rw [Array.size_setIfInBounds, Nat.mul_one]; exact h3, ?_⟩⟩
    rw [Nat.mul_one, Array.toList_setIfInBounds, ext_set cur.toList off n k u hk (by omega), h4]
theorem Mid.far_set {w : World} {N n : Nat} {t : TypeId} {v : Value} {xs : List Value} (h : Mid w N t 1 v n xs) {a : Addr} (hne : ∀ g, v.ownBlock = some g → g ≠ a.block) (u : Value) : Mid (w.setCell a u) N t 1 v n xs :=
  h.same fun g hg => heap_setCell_other w a g u (hne g hg)
/-- A list stored into a list of the call's own. -/
theorem OO.put {w : World} {N n c k : Nat} {A : Option Addr} {own : List Ar} (h : OO w N (.slice A n c) own) (hn : own.length = n) (hk : k < n) {e : Ar} (he : Mid w N 3 1 e.v e.n (ks .i64 e.l)) :
    ∃ ad v, A = some ad ∧ w.cell? (ad.add k) = some v ∧ w.frozen? (ad.add k) = false ∧ OO (w.setCell (ad.add k) e.v) N (.slice A n c) (own.set k e) ∧ N ≤ (ad.add k).block ∧ (∀ (M m : Nat) (v : Value) (xs : List Value), Mid w M 3 1 v m xs → Mid (w.setCell (ad.add k) e.v) M 3 1 v m xs) := by
  have hr := h.row
  rw [hn] at hr
  obtain ⟨ad, v, e1, hc, hf, hm, h1, h2, h3, h4⟩ := hr.put hk e.v
  have key : ∀ (M m : Nat) (v : Value) (xs : List Value), Mid w M 3 1 v m xs → Mid (w.setCell (ad.add k) e.v) M 3 1 v m xs := fun M m v xs hx => hx.far_set (fun g hg hgb => hx.apart hr (by decide) g hg (by rw [h4, ← h3, hgb])) _
  refine ⟨ad, v, e1, hc, hf, ⟨?_, fun x hx => ?_, ?_⟩, by rw [h3]; exact h1, key⟩
  · rw [List.length_set, hn, List.map_set]; exact hm
  · rcases List.mem_or_eq_of_mem_set hx with hx | rfl
    · exact key _ _ _ _ (h.els x hx)
    · exact key _ _ _ _ he
  · simpa using h.le
end Go.Proofs.Ytokjeglhmmijfaa
