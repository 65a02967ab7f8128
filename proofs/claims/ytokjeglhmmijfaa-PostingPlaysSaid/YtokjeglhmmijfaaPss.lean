/-
  The reference's RightList; conditions: lengths.
-/
import Derived.Test.YtokjeglhmmijfaaPsr
namespace Go.Proofs.Ytokjeglhmmijfaa
open Go.RowKit Go.WideShapes Go.ChangeShapes
set_option linter.all false
/-- Are these lists right, one behind the other, above p? -/
def rlI : Int → List (List Int) → Bool
  | _, [] => true
  | p, b :: r => rightI b && decide (p < b.getD 0 0) && rlI (b.getD (b.length - 1) 0) r
set_option maxRecDepth 100000 in
set_option maxHeartbeats 1600000 in
theorem refList_any (A : Option Addr) (n c : Nat) (ws : List Ar) (w : World) (h : LK .i64 w w.heap.size A n c ws) (h16 : ∀ e ∈ ws, e.n ≤ 1000) (hn : n ≤ 1000000) :
    Calls Try.prog 39 #[.slice A n c] w fun e w' => e = .returned (.bool (rlI (-1) (ws.map Ar.l))) ∧ w' = w := by
  have HK := Lib.hid h
  have HLN : Hid (ws.length = n) := Lib.hid h.len
  have H16 := Lib.hid h16
  obtain ⟨o, ho⟩ : ∃ o, o = rlI (-1) (ws.map Ar.l) := ⟨_, rfl⟩
  rw [← ho]
  have HO : Hid (o = rlI (-1) ((ws.map Ar.l).drop 0)) := Lib.hid ho
  clear h h16 ho
  go_enter Try.func39, Try.ntmps39
  go_wp2
  go_loopw [3, 5, 8] (fun s _ i v1 => ∃ (j : Nat) (p : Int), i = .int .i64 j ∧ j ≤ n ∧ s = .int .i64 p ∧ Hid (o = rlI p ((ws.map Ar.l).drop j)) ∧ v1 = w) (fun _ _ i _ => n - (intOf i).toNat)
  case atStart => exact ⟨0, _, rfl, Nat.zero_le _, rfl, HO, rfl⟩
  case round =>
    obtain ⟨j, p, rfl, hj, rfl, HJ, rfl⟩ := hrel
    have j0 : (0 : Int) ≤ j := by omega
    by_cases hlt : j < n
    · have hjl : j < ws.length := by rw [HLN.out]; exact hlt
      obtain ⟨ad, rfl, g0, s0⟩ := HK.out.at_ hlt
      have hmem : ws.getD j dA ∈ ws := by rw [List.getD_eq_getElem?_getD, List.getElem?_eq_getElem hjl]; exact List.getElem_mem hjl
      have hstep : (ws.map Ar.l).drop j = (ws.getD j dA).l :: (ws.map Ar.l).drop (j + 1) := by
        rw [List.drop_eq_getElem_cons (by rw [List.length_map]; exact hjl), List.getElem_map, List.getD_eq_getElem?_getD, List.getElem?_eq_getElem hjl]; rfl
      have h1000 := H16.out _ hmem
      obtain ⟨e1, he1⟩ : ∃ e1, e1 = ws.getD j dA := ⟨_, rfl⟩
      rw [← he1] at g0 s0 hstep h1000
      obtain ⟨B1, m1, d1, b⟩ := e1
      replace g0 : _ = some (Value.slice B1 m1 d1) := g0
      replace s0 : SK .i64 wr wr.heap.size B1 m1 d1 b := s0
      replace h1000 : m1 ≤ 1000 := h1000
      have hml : b.length = m1 := s0.len
      have HST : Hid (o = (rightI b && decide (p < b.getD 0 0) && rlI (b.getD (b.length - 1) 0) ((ws.map Ar.l).drop (j + 1)))) := Lib.hid (by rw [HJ.out, hstep]; rfl)
      have HS := Lib.hid s0
      have HRC : Hid (Calls Try.prog 52 #[.slice B1 m1 d1] wr fun e w' => e = .returned (.bool (rightI b)) ∧ w' = wr) := Lib.hid (rids_any wr.heap.size B1 m1 d1 b wr s0.2.2.2 h1000)
      clear he1 hstep hmem hjl
      cases hrb : rightI b with
      | false =>
        rw [hrb] at HRC HST
        obtain rfl : o = false := HST.out
        clear s0 hml hrb
        go_wp2_with (first
          | (go_at_call 52; refine HRC.out.mono ?_; rintro e w2 ⟨rfl, hw2⟩; rw [hw2]; clear hw2)
          | fail)
        go_ret
        exact ⟨rfl, by trivial⟩
      | true =>
        rw [hrb, Bool.true_and] at HST
        rw [hrb] at HRC
        have hb1 : 0 < m1 := by
          unfold rightI at hrb
          rw [Bool.and_eq_true, decide_eq_true_eq] at hrb
          omega
        have hb2 : (0 : Int) < m1 := by omega
        obtain ⟨ad1, rfl, g2⟩ := s0.2.2.2.kat hb1
        obtain ⟨ad2, e2, g4⟩ := s0.2.2.2.kat (show m1 - 1 < m1 by omega)
        injection e2 with e2
        subst e2
        obtain ⟨y, hy⟩ : ∃ y, y = b.getD 0 0 := ⟨_, rfl⟩
        obtain ⟨z, hz⟩ : ∃ z, z = b.getD (m1 - 1) 0 := ⟨_, rfl⟩
        rw [← hy] at g2 HST
        rw [← hz] at g4
        rw [hml, ← hz] at HST
        have g3 : wr.cell? ad1 = some (.int .i64 y) := by simpa [Addr.add] using g2
        have hw1 : wrap64 ((m1 : Int) - 1) = ((m1 - 1 : Nat) : Int) := by
          rw [show ((m1 - 1 : Nat) : Int) = (m1 : Int) - 1 from by omega]
          unfold wrap64; omega
        clear s0 hml hrb g2 hy hz
        by_cases hyp : y ≤ p
        · obtain rfl : o = false := by rw [HST.out, decide_eq_false (by omega)]; rfl
          go_wp2_with (first
            | (go_at_call 52; refine HRC.out.mono ?_; rintro e w2 ⟨rfl, hw2⟩; rw [hw2]; clear hw2)
            | fail)
          go_ret
          exact ⟨rfl, by trivial⟩
        · have HJ2 : Hid (o = rlI z ((ws.map Ar.l).drop (j + 1))) := Lib.hid (by rw [HST.out, decide_eq_true (by omega)]; rfl)
          obtain ⟨m, rfl⟩ : ∃ m, m1 = m + 1 := ⟨m1 - 1, by omega⟩
          rw [Nat.add_sub_cancel] at g4
          have hm0 : (0 : Int) ≤ m := by omega
          clear hw1
          go_wp2_with (first
            | (go_at_call 52; refine HRC.out.mono ?_; rintro e w2 ⟨rfl, hw2⟩; rw [hw2]; clear hw2)
            | fail)
          go_roundw
          case rel => exact ⟨j + 1, z, by go_num, by omega, rfl, HJ2, by trivial⟩
          case measure => simp only [intOf]; omega
    · obtain rfl : n = j := by omega
      obtain rfl : o = true := by rw [HJ.out, List.drop_of_length_le (by rw [List.length_map, HLN.out]; exact Nat.le_refl _)]; rfl
      go_wp2
      go_ret
      exact ⟨rfl, by trivial⟩
end Go.Proofs.Ytokjeglhmmijfaa
