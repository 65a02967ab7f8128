/-
  Init, Fix, Pop; conditions: lengths.
-/
import Derived.Test.YthgjpdbajmfclaaMg6
namespace Go.Proofs.Ythgjpdbajmfclaa
open Go.RowKit Go.WideShapes Go.ChangeShapes
set_option linter.all false
set_option maxRecDepth 100000 in
set_option maxHeartbeats 400000 in
theorem up0 (a : Addr) (w : World) : Calls Try.prog 26 #[.iface 40 (.pointer (some a)), .int .i64 0] w fun e w' => e = .returned (.tuple #[]) ∧ w' = w := by
  go_enter Try.func26, Try.ntmps26
  go_wp2
  go_loop [1] (fun j => j = .int .i64 0) (fun _ => 0)
  case atStart => rfl
  case round =>
    subst hrel
    go_wp2
    go_end0
    exact ⟨rfl, rfl⟩
set_option maxRecDepth 100000 in
set_option maxHeartbeats 400000 in
theorem fix0 (P g B n c : Nat) (xs : List El) (w : World) (hn : xs.length = n) (hN : n < 1000000) (hPg : P ≠ g) (hgB : B ≤ g) (hP : w.cell? ⟨P, 0, none⟩ = some (.slice (some ⟨g, 0, none⟩) n c)) (h : Row g B xs w) :
    Calls Try.prog 22 #[.iface 40 (.pointer (some ⟨P, 0, none⟩)), .int .i64 0] w fun e w' => e = .returned (.tuple #[]) ∧ Row g B (downF xs 0 n) w' ∧ OnlyR g w w' := by
  have hm1 := m_len _ _ _ _ _ hP
  go_enter Try.func22, Try.ntmps22
  go_wp2_with (first
    | (go_at_call 25; refine (down_any P g B n c n xs 0 w (Nat.le_refl _) (Nat.zero_le _) hn hN hPg hgB hP h).mono ?_
       rintro e w1 ⟨⟨b, rfl⟩, hr, ho⟩
       have HR := Lib.hid hr
       have HO := Lib.hid ho
       clear hr ho
       cases b)
    | (go_at_call 26; refine (up0 _ _).mono ?_; rintro e w2 ⟨rfl, hw2⟩; rw [hw2]; clear hw2)
    | (go_at_call 43; refine (len_any _ _ _ _).mono ?_; rintro e w0 ⟨rfl, hw0⟩; rw [hw0]; clear hw0)
    | fail)
  all_goals
    first
      | (go_end0; exact ⟨rfl, HR.out, HO.out⟩)
      | (go_ret; exact ⟨rfl, HR.out, HO.out⟩)
      | exact bodyPost_end0 ⟨rfl, HR.out, HO.out⟩
/-- The row after Init. -/
def initF (xs : List El) (n : Nat) : Nat → List El
  | 0 => xs
  | k + 1 => initF (downF xs k n) n k
set_option maxRecDepth 100000 in
set_option maxHeartbeats 800000 in
theorem init_any (P g B n c : Nat) (xs : List El) (w : World) (hn : xs.length = n) (hN : n < 1000000) (hPg : P ≠ g) (hgB : B ≤ g) (hP : w.cell? ⟨P, 0, none⟩ = some (.slice (some ⟨g, 0, none⟩) n c)) (h : Row g B xs w) :
    Calls Try.prog 24 #[.iface 40 (.pointer (some ⟨P, 0, none⟩))] w fun e w' => e = .returned (.tuple #[]) ∧ Row g B (initF xs n (n / 2)) w' ∧ OnlyR g w w' := by
  have hm1 := m_len _ _ _ _ _ hP
  go_enter Try.func24, Try.ntmps24
  go_wp2_with (first
    | (go_at_call 43; refine (len_any _ _ _ _).mono ?_; rintro e w0 ⟨rfl, hw0⟩; rw [hw0]; clear hw0)
    | fail)
  go_loopw [3] (fun v wr => ∃ (k : Nat) (ys : List El), v = .int .i64 ((k : Int) - 1) ∧ k ≤ n / 2 ∧ Hid (ys.length = n) ∧ Hid (initF ys n k = initF xs n (n / 2)) ∧ Row g B ys wr ∧ OnlyR g w wr) (fun v _ => (intOf v + 1).toNat)
  case atStart => exact ⟨n / 2, xs, by congr 1 <;> omega, Nat.le_refl _, hn, rfl, h, OnlyR.refl _ _⟩
  case round =>
    obtain ⟨k, ys, rfl, hk, HL, HU, HR, HO⟩ := hrel
    have hc : wr.cell? ⟨P, 0, none⟩ = some (.slice (some ⟨g, 0, none⟩) n c) := (HO.cell hPg).trans hP
    cases k with
    | zero =>
      go_wp2
      first
        | (go_end0; exact ⟨rfl, by have := HU.out; rw [← this]; exact HR, HO⟩)
        | (go_ret; exact ⟨rfl, by have := HU.out; rw [← this]; exact HR, HO⟩)
    | succ k =>
      have hg : (0 : Int) ≤ ((k + 1 : Nat) : Int) - 1 := by omega
      have e1 : ((k + 1 : Nat) : Int) - 1 = (k : Int) := by omega
      rw [e1] at hg ⊢
      have hkn : k ≤ n := by omega
      go_wp2_with (first
        | (go_at_call 25; refine (down_any P g B n c n ys k wr (Nat.le_refl _) hkn HL.out hN hPg hgB hc HR).mono ?_
           rintro e w1 ⟨⟨b, rfl⟩, hr, ho⟩
           have HR1 := Lib.hid hr
           have HO1 := Lib.hid (HO.trans ho)
           clear hr ho)
        | fail)
      go_roundw
      case rel => exact ⟨k, downF ys k n, by congr 1 <;> omega, by omega, Lib.hid (by rw [(downF_perm n n k ys (by omega) (by have := HL.out; omega)).length_eq]; exact HL.out), HU, HR1.out, HO1.out⟩
      case measure => simp only [intOf]; omega
set_option maxRecDepth 100000 in
set_option maxHeartbeats 800000 in
theorem hpop_any (P g B n c : Nat) (xs : List El) (w : World) (hn : xs.length = n + 1) (hN : n + 1 < 1000000) (hnc : n + 1 ≤ c) (hPg : P ≠ g) (hgB : B ≤ g) (hP : w.cell? ⟨P, 0, none⟩ = some (.slice (some ⟨g, 0, none⟩) (n + 1) c)) (hF : w.frozen? ⟨P, 0, none⟩ = false) (h : Row g B xs w) :
    Calls Try.prog 23 #[.iface 40 (.pointer (some ⟨P, 0, none⟩))] w fun e w' => (∃ v, e = .returned v) ∧ ∃ w1, Row g B (downF (swp xs 0 n) 0 n) w1 ∧ OnlyR g w w1 ∧ w' = w1.setCell ⟨P, 0, none⟩ (.slice (some ⟨g, 0, none⟩) n c) := by
  have hm1 := m_len _ _ _ _ _ hP
  have hm2 := m_swap _ _ _ _ _ hP
  have S := swap_i g B (n + 1) c xs (a := 0) (b := (n : Int)) 0 n w (by omega) rfl hn (by omega) (by omega) hgB h
  have HPP := Lib.hid hP
  have HFF := Lib.hid hF
  clear hP hF
  go_enter Try.func23, Try.ntmps23
  go_wp2_with (first
    | (go_at_call 45; refine S.mono ?_
       rintro e w1 ⟨rfl, hr1, ho1⟩
       have hc1 : w1.cell? ⟨P, 0, none⟩ = some (.slice (some ⟨g, 0, none⟩) (n + 1) c) := (ho1.cell hPg).trans HPP.out
       have HC1 := Lib.hid hc1
       have HR1 := Lib.hid hr1
       have HO1 := Lib.hid ho1
       clear hr1 ho1 hc1)
    | (go_at_call 25; refine (down_any P g B (n + 1) c n (swp xs 0 n) 0 _ (by omega) (Nat.zero_le _) (by rw [swp_len]; exact hn) (by omega) hPg hgB HC1.out HR1.out).mono ?_
       rintro e w2 ⟨⟨b, rfl⟩, hr2, ho2⟩
       have hc2 : w2.cell? ⟨P, 0, none⟩ = some (.slice (some ⟨g, 0, none⟩) (n + 1) c) := (ho2.cell hPg).trans HC1.out
       have hf2 : w2.frozen? ⟨P, 0, none⟩ = false := (World.frozen?_of_block ((HO1.out.trans ho2).block P hPg)).trans HFF.out
       have HC2 := Lib.hid hc2
       have HF2 := Lib.hid hf2
       have HR2 := Lib.hid hr2
       have HO2 := Lib.hid (HO1.out.trans ho2)
       have hm3 := m_pop ⟨P, 0, none⟩ w2
       clear hr2 ho2 hc2 hf2)
    | (go_at_call 46; refine (npop_any P g B n c (downF (swp xs 0 n) 0 n) _ (by rw [(downF_perm n n 0 _ (by omega) (by rw [swp_len]; omega)).length_eq, swp_len]; exact hn) hnc HC2.out HF2.out HR2.out (by omega)).mono ?_
       rintro e w3 ⟨⟨v, rfl⟩, hw3⟩
       have HW3 := Lib.hid hw3
       clear hw3)
    | (go_at_call 43; refine (len_any _ _ _ _).mono ?_; rintro e w0 ⟨rfl, hw0⟩; rw [hw0]; clear hw0)
    | fail)
  first
    | (go_ret; exact ⟨⟨_, rfl⟩, w2, HR2.out, HO2.out, HW3.out⟩)
    | (go_end0; exact ⟨⟨_, rfl⟩, w2, HR2.out, HO2.out, HW3.out⟩)
end Go.Proofs.Ythgjpdbajmfclaa
