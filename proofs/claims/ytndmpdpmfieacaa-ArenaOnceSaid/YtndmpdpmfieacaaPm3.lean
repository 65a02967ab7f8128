/-
  heap.Pop over the pool's numbers, told by lists.
-/
import Derived.Test.YtndmpdpmfieacaaPm2
namespace Go.Proofs.Ytndmpdpmfieacaa
open Go.RowKit Go.WideShapes Go.ChangeShapes
set_option linter.all false
theorem own_take {w : World} {B g n c : Nat} {xs : List Int} (h : w.ownsRow B 3 1 (.slice (some ⟨g, 0, none⟩) n c) n (ints xs)) (m : Nat) (hm : m ≤ n) :
    w.ownsRow B 3 1 (.slice (some ⟨g, 0, none⟩) m c) m (ints (xs.take m)) := by
  have hl := h.1
  rw [ints_len] at hl
  refine ⟨by rw [ints_len, List.length_take]; omega, ?_⟩
  rcases h.2 with ⟨h', _⟩ | ⟨g', c', cur, h', hb, hg, hn, hc, hs, ht⟩
  · simp at h'
  · simp only [Value.slice.injEq, Option.some.injEq, Addr.mk.injEq, and_true, true_and] at h'
    obtain ⟨rfl, rfl⟩ := h'
    refine .inr ⟨g, c, cur, rfl, hb, hg, by omega, hc, hs, ?_⟩
    simp only [Nat.mul_one] at ht ⊢
    unfold ints at ht ⊢
    rw [List.map_take, ← ht, List.take_take, Nat.min_eq_left hm]
set_option maxRecDepth 100000 in
set_option maxHeartbeats 800000 in
theorem hpop_own (P B : Nat) (v : Value) (xs : List Int) (w : World) (h : Heap P B v xs w) (hn : xs ≠ []) (hm : xs.length < 900000) (hPB : P < B) (hBw : B ≤ w.heap.size) :
    Calls Try.prog 78 #[.iface 150 (.pointer (some ⟨P, 0, none⟩))] w fun e w' => (∃ r, e = .returned r) ∧ ∃ v', Heap P B v' (popF xs) w' ∧ Turned P v w w' ∧ v'.ownBlock = v.ownBlock := by
  obtain ⟨A, c, rfl⟩ := own_slice h.own
  have hp := List.length_pos_iff.2 hn
  obtain ⟨g, c', hv, hgB, hgw⟩ := h.own.form hp
  injection hv with hA hl0 hc
  subst hA hc
  obtain ⟨L, hL⟩ : ∃ L, xs.length = L + 1 := ⟨xs.length - 1, by omega⟩
  have HP := h.cell
  have HF := h.free
  have HO := h.own
  rw [hL] at HP HO
  have hgP : P ≠ g := by omega
  have hr := row_of_own HO
  have hnc : L + 1 ≤ c := by
    rcases HO.2 with ⟨h', _⟩ | ⟨g', c', cur, h', _, _, hn, _⟩
    · simp at h'
    · simp only [Value.slice.injEq, Option.some.injEq, Addr.mk.injEq, and_true, true_and] at h'
      obtain ⟨rfl, rfl⟩ := h'
      exact hn
  have hm1 := m_len _ _ _ _ _ HP
  have hm2 := m_swap _ _ _ _ _ HP
  have hS := swap_i g (L + 1) c xs (a := 0) (b := L) 0 L w (by rfl) rfl hL (by omega) (by omega) hr
  have hpf : popF xs = (downF (swp xs 0 L) 0 L).take L := by unfold popF; rw [hL]; rfl
  have hLb : L < 900000 := by omega
  have HH := Lib.hid hpf
  have XL := Lib.hid hL
  have HN := Lib.hid hl0
  have GP := Lib.hid hgP
  have HO' := Lib.hid HO
  have hsl : (swp xs 0 L).length = L + 1 := by rw [swp_len]; exact hL
  have SL := Lib.hid hsl
  clear hpf hL hl0 h HO hp hn hsl
  go_enter Try.func78, Try.ntmps78
  go_wp2_with (first
    | (go_at_call 127
       refine hS.mono ?_
       rintro e w1 ⟨rfl, hR, hOn⟩
       have hP1 : w1.cell? ⟨P, 0, none⟩ = some (.slice (some ⟨g, 0, none⟩) (L + 1) c) := (hOn.cell GP.out).trans HP)
    | (go_at_call 98
       refine (down_any P g (L + 1) c L (swp xs 0 L) 0 _ (by omega) (by omega) SL.out (by omega) GP.out hP1 hR).mono ?_
       rintro e w2 ⟨⟨b, rfl⟩, hR2, hOn2⟩
       have hP2 : w2.cell? ⟨P, 0, none⟩ = some (.slice (some ⟨g, 0, none⟩) (L + 1) c) := (hOn2.cell GP.out).trans hP1
       have hF2 : w2.frozen? ⟨P, 0, none⟩ = false := (World.frozen?_of_block (hOn2.block P GP.out)).trans ((World.frozen?_of_block (hOn.block P GP.out)).trans HF)
       have hdl : (downF (swp xs 0 L) 0 L).length = L + 1 := by rw [downF_len _ _ (by rw [SL.out]; omega)]; exact SL.out
       have DL := Lib.hid hdl
       clear hdl
       have hm3 := m_pop ⟨P, 0, none⟩)
    | (go_at_call 128
       refine (npop_any P g L c (downF (swp xs 0 L) 0 L) _ DL.out (by omega) hP2 hF2 hR2 (by omega)).mono ?_
       rintro e w3 ⟨rfl, rfl⟩)
    | go_in
    | fail)
  go_ret
  have e1 : popF xs = (downF (swp xs 0 L) 0 L).take L := HH.out
  have hpl : (popF xs).length = L := by rw [e1, List.length_take, DL.out]; omega
  have hO2 := (hOn.trans hOn2).owns HO'.out hR2 DL.out
  refine ⟨⟨_, rfl⟩, .slice (some ⟨g, 0, none⟩) L c, ⟨World.cell?_setCell_same _ _ _ hP2, by rw [World.frozen?_setCell]; exact hF2, ?_⟩, ?_, rfl⟩
  · rw [hpl, e1]
    exact (own_take hO2 L (by omega)).kept (row := some P) ⟨rfl, rfl, rfl, by simp, fun k _ hk => Below.heap_setCell w2 _ _ k (fun e => hk (by rw [e]))⟩ (.inr (by simp [Value.ownBlock]; omega))
  · have hT := hOn.trans hOn2
    refine ⟨hT.os, hT.tape, hT.output, by simpa using Nat.le_of_eq hT.size.symm, fun b hb hp hv => ?_, fun o ho => (World.cell?_setCell_other w2 _ _ _ (by simp [Ne.symm ho])).trans (hT.cell GP.out)⟩
    have hbg : b ≠ g := fun e => hv (by rw [e]; rfl)
    exact (Below.heap_setCell w2 _ _ b hp).trans (hT.block b hbg)
end Go.Proofs.Ytndmpdpmfieacaa
