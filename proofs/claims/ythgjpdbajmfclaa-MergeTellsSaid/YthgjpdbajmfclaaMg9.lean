/-
  The heads of lists: those that aren't empty, a heap in new memory; conditions: lengths.
-/
import Derived.Test.YthgjpdbajmfclaaMg8
namespace Go.Proofs.Ythgjpdbajmfclaa
open Go.RowKit Go.WideShapes Go.ChangeShapes
set_option linter.all false
theorem info22 : (Try.prog.info? 22).map (fun i => (i.zero, i.size, i.bytes)) = some (some (.slice none 0 0), 1, 24) := by kernel_rfl
theorem u37 : Try.prog.underlying 37 = some (.slice 22) := by kernel_rfl
/-- A value of the type heads: none, or a heap in a block of its own. -/
def HV (w : World) (B B0 : Nat) (v : Value) (H : List El) : Prop :=
  (v = .slice none 0 0 ∧ H = []) ∨ ∃ g c, v = .slice (some ⟨g, 0, none⟩) H.length c ∧ H.length ≤ c ∧ c ≤ maxLen ∧ B0 ≤ g ∧ g < w.heap.size ∧ Row g B H w ∧ Heaped H H.length
theorem init_nil (a : Addr) (w : World) (h : w.cell? a = some (.slice none 0 0)) : Calls Try.prog 24 #[.iface 40 (.pointer (some a))] w fun e w' => e = .returned (.tuple #[]) ∧ w' = w := by
  have hm1 := m_len _ _ _ _ _ h
  go_enter Try.func24, Try.ntmps24
  go_wp2_with (first
    | (go_at_call 43; refine (len_any _ _ _ _).mono ?_; rintro e w0 ⟨rfl, hw0⟩; rw [hw0]; clear hw0)
    | fail)
  go_loop [3] (fun v => v = .int .i64 (-1)) (fun _ => 0)
  case atStart => rfl
  case round =>
    subst hrel
    go_wp2
    first
      | (go_end0; exact ⟨rfl, rfl⟩)
      | (go_ret; exact ⟨rfl, rfl⟩)
theorem row_of_own {w : World} {B B0 g n c : Nat} {xs : List El} (h : w.ownsRow B0 22 1 (.slice (some ⟨g, 0, none⟩) n c) n (xs.map El.v)) (ok : ∀ e ∈ xs, EOk w B e) : xs.length = n ∧ n ≤ c ∧ c ≤ maxLen ∧ B0 ≤ g ∧ g < w.heap.size ∧ Row g B xs w := by
  have hl : xs.length = n := by have := h.1; simp at this; exact this
  have hlt := h.lt g rfl
  obtain ⟨h1, h2⟩ : n ≤ c ∧ c ≤ maxLen := by
    rcases h.2 with ⟨h', _⟩ | ⟨g', cap, cur, h', _, _, q1, q2, _⟩
    · cases h'
    · simp only [Value.slice.injEq, Option.some.injEq, Addr.mk.injEq, and_true, true_and] at h'
      obtain ⟨rfl, rfl⟩ := h'
      exact ⟨q1, q2⟩
  refine ⟨hl, h1, h2, hlt.1, hlt.2, ⟨fun m hm => ?_, fun m hm => World.ownsRow.frozenAt h m, fun m hm => ?_⟩⟩
  · rw [World.ownsRow.cellAt h m (by omega), List.getElem?_map, List.getElem?_eq_getElem hm, List.getD_eq_getElem?_getD, List.getElem?_eq_getElem hm]; rfl
  · rw [List.getD_eq_getElem?_getD, List.getElem?_eq_getElem hm]; exact ok _ (List.getElem_mem hm)
theorem own_form {w : World} {B0 n : Nat} {v : Value} {xs : List Value} (h : w.ownsRow B0 22 1 v n xs) : ∃ A c, v = .slice A n c := by
  rcases h.2 with ⟨rfl, rfl⟩ | ⟨g, cap, cur, rfl, _⟩
  · exact ⟨_, _, rfl⟩
  · exact ⟨_, _, rfl⟩
theorem grown_of_alloc {w w1 : World} {o : Obj} {row : Option Nat} (h : (w.alloc o).grownBy w1 row) : w.grownBy w1 row :=
  ⟨h.os, h.tape, h.output, by have := h.size; simp at this; omega, fun k hk hr => (h.block k (by simp; omega) hr).trans (Below.heap_alloc w o k hk)⟩
theorem only_below {g B : Nat} {w w' : World} (h : OnlyR g w w') (hg : B ≤ g) : Below B w w' := ⟨h.os, h.tape, h.output, by rw [h.size]; exact Nat.le_refl _, fun k hk => h.block k (by omega)⟩
/-- What the loop of headsOf holds behind k lists. -/
def HI (ls : List Ar) (N : Nat) (w wr : World) (k : Nat) (v : Value) : Prop :=
  wr.cell? ⟨N, 0, none⟩ = some v ∧ wr.frozen? ⟨N, 0, none⟩ = false ∧ wr.ownsRow (N + 1) 22 1 v (els (ls.take k)).length ((els (ls.take k)).map El.v) ∧ Below N w wr ∧ N < wr.heap.size ∧ (els (ls.take k) = [] → v = .slice none 0 0)
theorem els_more {ls : List Ar} {k : Nat} (hk : k < ls.length) : els (ls.take (k + 1)) = els (ls.take k) ++ (match el1 (ls.getD k dA) with | some e => [e] | none => []) := by
  have e : ls.take (k + 1) = ls.take k ++ [ls.getD k dA] := by
    rw [List.take_succ_eq_append_getElem hk, List.getD_eq_getElem?_getD, List.getElem?_eq_getElem hk]; rfl
  rw [e]; unfold els
  rw [List.filterMap_append]
  congr 1
  cases h : el1 (ls.getD k dA) <;> simp only [List.filterMap_cons, h, List.filterMap_nil]
set_option maxRecDepth 100000 in
set_option maxHeartbeats 1600000 in
theorem heads_any (A : Option Addr) (n c : Nat) (ls : List Ar) (w : World) (h : LL w w.heap.size A n c ls) (hn : n ≤ 100) :
    Calls Try.prog 20 #[.slice A n c] w fun e w' => ∃ v H, e = .returned v ∧ HV w' w.heap.size w.heap.size v H ∧ H.Perm (els ls) ∧ Below w.heap.size w w' := by
  obtain ⟨i0, hi0, hz0, hz1, hz2⟩ := info_parts info22
  have HLL := Lib.hid h
  have HLN := Lib.hid h.len
  clear h
  obtain ⟨N, hN⟩ : ∃ N, N = w.heap.size := ⟨_, rfl⟩
  have HN := Lib.hid hN
  go_enter Try.func20, Try.ntmps20
  go_wp2
  rw [← hN]
  have hb0 : Below N w (w.alloc (.cells #[.slice none 0 0] 37)) := by rw [hN]; exact below_alloc _ _
  have hI0 : HI ls N w (w.alloc (.cells #[.slice none 0 0] 37)) 0 (.slice none 0 0) := by
    have e0 : els (ls.take 0) = [] := rfl
    refine ⟨?_, ?_, by rw [e0]; exact World.ownsRow_nil _ _ _ _, hb0, by rw [hN]; simp, fun _ => rfl⟩
    · rw [hN]; exact cell_of_row _ _ 0 #[.slice none 0 0] 37 (0, 0) (heap_alloc_new w _)
    · rw [hN]; exact (Blk.new w 37 #[.slice none 0 0]).frozen 0
  have HI0 := Lib.hid hI0
  clear hN hb0 hI0
  go_loopw [8] (fun i wr => ∃ (k : Nat) (v : Value), k ≤ n ∧ i = .int .i64 k ∧ Hid (HI ls N w wr k v)) (fun i _ => n - (intOf i).toNat)
  case atStart => exact ⟨0, _, Nat.zero_le _, rfl, HI0⟩
  case round =>
    clear HI0
    obtain ⟨k, v, hk, rfl, HK⟩ := hrel
    obtain ⟨X, cx, hv⟩ := own_form HK.out.2.2.1
    by_cases hlt : k < n
    · have hkl : k < ls.length := by rw [HLN.out]; exact hlt
      have hll := HLL.out.below (by rw [← HN.out]; exact HK.out.2.2.2.1)
      obtain ⟨ad, rfl, hcell, hsi⟩ := hll.at_ hlt
      have HM := Lib.hid (els_more hkl)
      have hm100 : (els (ls.take k)).length ≤ 100 := by have := els_len (ls.take k); rw [List.length_take] at this; omega
      obtain ⟨m, hm⟩ : ∃ m, m = (els (ls.take k)).length := ⟨_, rfl⟩
      generalize hge : ls.getD k dA = e at *
      obtain ⟨eA, en, ec, el⟩ := e
      simp only [Ar.v] at hcell
      simp only at hsi
      clear hll hkl hge
      have HSI := Lib.hid hsi
      by_cases h0 : en = 0
      · subst h0
        have HE : Hid (els (ls.take (k + 1)) = els (ls.take k)) := Lib.hid (by
          rw [HM.out]
          cases eA <;> simp [el1])
        clear hsi hm hm100
        go_wp2
        go_roundw
        case rel => exact ⟨k + 1, v, by omega, by go_num, Lib.hid (by unfold HI; rw [HE.out]; exact HK.out)⟩
        case measure => simp only [intOf]; omega
      · obtain ⟨ead, _, _, rfl, _, _⟩ := hsi.head (by omega)
        have hpos : 0 < en := by omega
        have HE : Hid (els (ls.take (k + 1)) = els (ls.take k) ++ [⟨ead, en, ec, el⟩]) := Lib.hid (by
          rw [HM.out]; simp [el1, h0])
        have hcv := HK.out.1
        have hfv := HK.out.2.1
        rw [hv, ← hm] at hcv
        rw [← hm] at hm100
        have hown : wr.ownsRow (N + 1) 22 1 (.slice X m cx) m ((els (ls.take k)).map El.v) := by have := HK.out.2.2.1; rw [hv, ← hm] at this; exact this
        have HO := Lib.hid hown
        have HMM := Lib.hid hm
        have hNw : N + 1 ≤ wr.heap.size := HK.out.2.2.2.2.1
        clear hsi hm hown
        go_wp2_with (first
          | (refine wpList_append_own _ rfl (.tmp 15) (.tmp 17) 37 rfl (N + 1) 22 i0 _ 1 24 u37 hi0 hz0 hz1 hz2 rfl (by omega) (.slice X m cx) m _ rfl (HO.out.alloc _) ⟨_, 0, none⟩ 1 1 [.slice (some ead) en ec] rfl rfl (World.news_of_block (cs := #[.slice (some ead) en ec]) (t := 22) (fr := (0, 0)) (heap_alloc_new _ _)) (by simp [Value.oneCell']) (by unfold maxLen; omega) (by omega) (by simp; omega) ?_
             intro v' w3 hown3 hgr3 _
             obtain ⟨X3, c3, hv3⟩ := own_form hown3
             subst hv3
             have hgr : wr.grownBy w3 (Value.slice X m cx).ownBlock := grown_of_alloc hgr3
             have hPne : some N ≠ (Value.slice X m cx).ownBlock := (fun e => by have := (HO.out.lt N e.symm).1; omega)
             have hc3 : w3.cell? ⟨N, 0, none⟩ = some (.slice X m cx) := (World.cell?_of_block (hgr.block N (by omega) hPne)).trans hcv
             have hf3 : w3.frozen? ⟨N, 0, none⟩ = false := (World.frozen?_of_block (hgr.block N (by omega) hPne)).trans hfv
             have HO3 := Lib.hid hown3
             have HG3 := Lib.hid hgr
             clear hown3 hgr3 hgr)
          | fail)
        have HF : Hid (HI ls N w (w3.setCell ⟨N, 0, none⟩ (.slice X3 (m + 1) c3)) (k + 1) (.slice X3 (m + 1) c3)) := Lib.hid (by
          have hlen : (els (ls.take (k + 1))).length = m + 1 := by rw [HE.out, List.length_append, ← HMM.out]; rfl
          refine ⟨World.cell?_setCell_same _ _ _ hc3, by rw [World.frozen?_setCell]; exact hf3, ?_, ?_, ?_, ?_⟩
          · rw [hlen, HE.out, List.map_append]
            exact ownsRow_setCell_below HO3.out (by simp) _
          · exact (HK.out.2.2.2.1.grown HG3.out (by omega) (fun g hg => by have := (HO.out.lt g hg).1; omega)).setCell (by simp) _
          · have := HG3.out.size; simp; omega
          · intro e; rw [HE.out] at e; simp at e)
        clear HO3 HG3 hPne
        go_roundw
        case rel => exact ⟨k + 1, _, by omega, by go_num, HF⟩
        case measure => simp only [intOf]; omega
    · obtain rfl : n = k := by omega
      have HT : Hid (ls.take n = ls) := Lib.hid (List.take_of_length_le (by rw [HLN.out]; exact Nat.le_refl _))
      have hcv := HK.out.1
      have hm100 : (els ls).length ≤ 100 := by have := els_len ls; rw [HLN.out] at this; omega
      have hok : ∀ e ∈ els ls, EOk wr w.heap.size e := els_ok fun e he => ((HLL.out.below (by rw [← HN.out]; exact HK.out.2.2.2.1)).2.2.2.2 e he)
      have HOK := Lib.hid hok
      clear hok
      by_cases hnil : els ls = []
      · have hv0 : v = .slice none 0 0 := HK.out.2.2.2.2.2 (by rw [HT.out]; exact hnil)
        have HNIL := Lib.hid hnil
        have hcv0 : wr.cell? ⟨N, 0, none⟩ = some (.slice none 0 0) := by rw [← hv0]; exact hcv
        clear hnil hcv hv hv0
        go_wp2_with (first
          | (go_at_call 24; refine (init_nil _ _ hcv0).mono ?_; rintro e w0 ⟨rfl, hw0⟩; rw [hw0]; clear hw0)
          | fail)
        go_ret
        exact ⟨_, [], rfl, .inl ⟨rfl, rfl⟩, by rw [HNIL.out], by rw [← HN.out]; exact HK.out.2.2.2.1⟩
      · have hown := HK.out.2.2.1
        rw [HT.out] at hown
        obtain ⟨g, rfl⟩ : ∃ g, X = some ⟨g, 0, none⟩ := by
          rw [hv] at hown
          rcases hown.2 with ⟨_, h0⟩ | ⟨g, cap, cur, h', _⟩
          · exact absurd (List.eq_nil_of_length_eq_zero h0) hnil
          · simp only [Value.slice.injEq] at h'; exact ⟨g, h'.1⟩
        rw [HT.out] at hv
        subst hv
        obtain ⟨r1, r2, r3, r4, r5, r6⟩ := row_of_own hown HOK.out
        have HR := Lib.hid r6
        have HQ := Lib.hid (⟨r2, r3, r4, r5⟩ : _ ∧ _ ∧ _ ∧ _)
        have HH := Lib.hid (init_heaped (els ls))
        have hNg : N ≠ g := by omega
        have hBg : w.heap.size ≤ g := by rw [← HN.out]; omega
        obtain ⟨q, hq⟩ : ∃ q, q = (els ls).length := ⟨_, rfl⟩
        rw [← hq] at hcv hm100 HQ HH
        have HLQ := Lib.hid hq
        clear hown r1 r2 r3 r4 r5 r6 hq
        go_wp2_with (first
          | (go_at_call 24; refine (init_any N g w.heap.size q cx (els ls) _ HLQ.out.symm (by omega) hNg hBg hcv HR.out).mono ?_
             rintro e w1 ⟨rfl, hr1, ho1⟩
             have hc1 : w1.cell? ⟨N, 0, none⟩ = some (.slice (some ⟨g, 0, none⟩) q cx) := (ho1.cell hNg).trans hcv
             have HR1 := Lib.hid hr1
             have HO1 := Lib.hid ho1
             clear hr1 ho1)
          | fail)
        go_ret
        have hpl := HH.out.2.length_eq
        refine ⟨_, initF (els ls) q (q / 2), rfl, .inr ⟨g, cx, by rw [hpl, ← HLQ.out]; rfl, by rw [hpl, ← HLQ.out]; exact HQ.out.1, HQ.out.2.1, hBg, by rw [HO1.out.size]; exact HQ.out.2.2.2, HR1.out, by rw [hpl, ← HLQ.out]; exact HH.out.1⟩, HH.out.2, ?_⟩
        have hb := HK.out.2.2.2.1
        rw [HN.out] at hb
        exact hb.trans (only_below HO1.out hBg)
end Go.Proofs.Ythgjpdbajmfclaa
