/-
  The law MemTurns at any list of turns: the walk; no condition.
-/
import Derived.Test.YtlkanknmjkeagaaDo
import Derived.Test.YtlkanknmjkeagaaMK1
import Derived.Test.YtlkanknmjkeagaaMK2
import Derived.Test.YtlkanknmjkeagaaMK3
import Derived.Test.YtlkanknmjkeagaaMK4
import Derived.Test.YtlkanknmjkeagaaMK5
import Derived.Test.YtlkanknmjkeagaaMK6
import Derived.Test.YtlkanknmjkeagaaMK7
import Derived.Test.YtlkanknmjkeagaaMK8
import Derived.Test.YtlkanknmjkeagaaFr
namespace Go.Proofs.Ytlkanknmjkeagaa
open Go.RowKit Go.WideShapes Go.ChangeShapes
set_option linter.all false
theorem new_any (k : Nat) (h1 : 1 ≤ k) (h9 : k ≤ 8) (w : World) : Calls Try.prog 15 #[cfg k] w (NewMem w k) := by
  have : k = 1 ∨ k = 2 ∨ k = 3 ∨ k = 4 ∨ k = 5 ∨ k = 6 ∨ k = 7 ∨ k = 8 := by omega
  rcases this with rfl | rfl | rfl | rfl | rfl | rfl | rfl | rfl
  · exact new_of mk_1 w
  · exact new_of mk_2 w
  · exact new_of mk_3 w
  · exact new_of mk_4 w
  · exact new_of mk_5 w
  · exact new_of mk_6 w
  · exact new_of mk_7 w
  · exact new_of mk_8 w
section
variable {M oM E oE R oR k : Nat} {h now : Int} {pin : Nat → Int} {w w' : World}
theorem dtake_yes (H : Mm M oM E oE R oR k (-1) now pin w) (j : Nat) (hj : j < k) : Calls Try.prog 16 #[.pointer (some ⟨M, oM, none⟩), .int .i64 j, acc 14 0] w fun e w' => e = .returned (res 0 true) ∧ Below w.heap.size (w.setCell ⟨M, oM + 4, none⟩ (.int .i64 j)) w' :=
  do_set H (by omega) j hj 14 0 0 true M (oM + 4) _ (H.lt (by omega)).1 fun w0 hb => take_yes (H.below (by omega) hb) (by omega) j
theorem dtake_no (H : Mm M oM E oE R oR k h now pin w) (j : Nat) (hj : j < k) (hh : (h == -1) = false) : Calls Try.prog 16 #[.pointer (some ⟨M, oM, none⟩), .int .i64 j, acc 14 0] w fun e w' => e = .returned (res 0 false) ∧ Below w.heap.size w w' :=
  do_keep H (by omega) j hj 14 0 0 false fun w0 hb => take_no (H.below (by omega) hb) (by omega) j hh
theorem dgive_yes {j : Nat} (H : Mm M oM E oE R oR k (j : Int) now pin w) (hj : j < k) : Calls Try.prog 16 #[.pointer (some ⟨M, oM, none⟩), .int .i64 j, acc 15 0] w fun e w' => e = .returned (res 0 true) ∧ Below w.heap.size (w.setCell ⟨M, oM + 4, none⟩ (.int .i64 (-1))) w' :=
  do_set H (by omega) j hj 15 0 0 true M (oM + 4) _ (H.lt (by omega)).1 fun w0 hb => give_yes (H.below (by omega) hb) (by omega)
theorem dgive_no (H : Mm M oM E oE R oR k h now pin w) (j : Nat) (hj : j < k) (hh : (h == (j : Int)) = false) : Calls Try.prog 16 #[.pointer (some ⟨M, oM, none⟩), .int .i64 j, acc 15 0] w fun e w' => e = .returned (res 0 false) ∧ Below w.heap.size w w' :=
  do_keep H (by omega) j hj 15 0 0 false fun w0 hb => give_no (H.below (by omega) hb) (by omega) j hh
theorem dturn_any (H : Mm M oM E oE R oR k h now pin w) (j : Nat) (hj : j < k) : Calls Try.prog 16 #[.pointer (some ⟨M, oM, none⟩), .int .i64 j, acc 13 0] w fun e w' => e = .returned (res h false) ∧ Below w.heap.size w w' :=
  do_keep H (by omega) j hj 13 0 h false fun w0 hb => turn_any (H.below (by omega) hb) (by omega) j
end
/-- All of the law's memory: the memory, the configuration's box at C. -/
structure Tn (W : World) (C M oM E oE R oR k : Nat) (h now : Int) (pin : Nat → Int) (w : World) : Prop where
  mm : Mm M oM E oE R oR k h now pin w
  box : w.cell? ⟨C, 5, none⟩ = some (.int .i64 k)
  hC : W.heap.size ≤ C ∧ C < M ∧ C < E ∧ C < R
  bel : Below W.heap.size W w
section
variable {W : World} {C M oM E oE R oR k : Nat} {h now : Int} {pin : Nat → Int} {w w' : World}
theorem Tn.keep (T : Tn W C M oM E oE R oR k h now pin w) (hk : 0 < k) (hb : Below w.heap.size w w') : Tn W C M oM E oE R oR k h now pin w' := by
  obtain ⟨a, b, c, d⟩ := T.hC
  have l := (T.mm.lt hk).1
  exact ⟨T.mm.below hk hb, (hb.cell (p := ⟨C, 5, none⟩) (by show C < _; omega)).trans T.box, T.hC, T.bel.trans (hb.mono T.bel.size)⟩
theorem Tn.hold (T : Tn W C M oM E oE R oR k h now pin w) (hk : 0 < k) (n : Int) (hb : Below w.heap.size (w.setCell ⟨M, oM + 4, none⟩ (.int .i64 n)) w') : Tn W C M oM E oE R oR k n now pin w' := by
  obtain ⟨a, b, c, d⟩ := T.hC
  have hb' : Below (w.setCell ⟨M, oM + 4, none⟩ (.int .i64 n)).heap.size (w.setCell ⟨M, oM + 4, none⟩ (.int .i64 n)) w' := hb.mono (by simp)
  exact Tn.keep (w := w.setCell ⟨M, oM + 4, none⟩ (.int .i64 n)) ⟨T.mm.hold n, (World.cell?_setCell_far _ _ _ _ (by show M ≠ C; omega)).trans T.box, T.hC, T.bel.setCell (by show W.heap.size ≤ M; omega) _⟩ hk hb'
theorem Tn.drew (T : Tn W C M oM E oE R oR k h now pin w) : Tn W C M oM E oE R oR k h now pin w.drew := ⟨T.mm.drew, T.box, T.hC, T.bel.drew⟩
end
theorem bools_get {w : World} {B n : Nat} {A : Option Addr} {xs : List Bool} (h : Reads w B 1 A n (xs.map Value.bool)) {k : Nat} (hk : k < n) : ∃ ad, A = some ad ∧ ad.block < B ∧ w.cell? (ad.add k) = some (.bool (xs[k]?.getD false)) := by
  obtain ⟨ad, u, rfl, hb, hu, hc⟩ := h.at_ hk
  refine ⟨ad, rfl, hb, ?_⟩
  rw [hc, ← hu, List.getElem?_map]
  rw [List.getElem?_map] at hu
  cases hx : xs[k]? with
  | none => rw [hx] at hu; cases hu
  | some b => rfl
theorem ints_get {w : World} {B n : Nat} {A : Option Addr} {xs : List Int} (h : Reads w B 1 A n (xs.map (Value.int .i64))) {k : Nat} (hk : k < n) : ∃ ad, A = some ad ∧ ad.block < B ∧ w.cell? (ad.add k) = some (.int .i64 (xs[k]?.getD 0)) := by
  obtain ⟨ad, u, rfl, hb, hu, hc⟩ := h.at_ hk
  refine ⟨ad, rfl, hb, ?_⟩
  rw [hc, ← hu, List.getElem?_map]
  rw [List.getElem?_map] at hu
  cases hx : xs[k]? with
  | none => rw [hx] at hu; cases hu
  | some b => rfl
theorem fld1 (a b c d : Value) (w : World) : (Instr.field 47 (.agg #[a, b, c, d]) 1).run Try.prog w = .ok b w := by kernel_rfl
theorem fld2 (a b c d : Value) (w : World) : (Instr.field 47 (.agg #[a, b, c, d]) 2).run Try.prog w = .ok c w := by kernel_rfl
attribute [local go_sem ↓] fld1 fld2
set_option maxRecDepth 100000 in
set_option maxHeartbeats 1600000 in
theorem turns_any (a : Int) (A A' : Option Addr) (len cap len' cap' : Nat) (xs : List Int) (bs : List Bool) (W : World) (hx : Reads W W.heap.size 1 A len (xs.map (Value.int .i64))) (hy : Reads W W.heap.size 1 A' len' (bs.map Value.bool)) :
    Calls Try.prog 4 #[.int .i64 a, .slice A len cap, .slice A' len' cap'] W fun e w' => e = .returned (.bool true) ∧ Below W.heap.size W w' := by
  obtain ⟨m, hm, hm9⟩ := withinV_nat a 8 (by omega)
  have hm' : withinV a (7 + 1) = m := hm
  have HM := Lib.hid hm'
  clear hm hm'
  obtain ⟨k, hk⟩ : ∃ k, k = m + 1 := ⟨_, rfl⟩
  have hk1 : (1 : Int) + m = k := by omega
  have HK := Lib.hid hk1
  have hk2 : 1 ≤ k := by omega
  have hk9 : k ≤ 8 := by omega
  clear hk hk1
  go_enter Try.func4, Try.ntmps4
  go_wp2_with (first
    | (go_at_call 14; refine (config_any _).mono ?_; rintro e w1 ⟨rfl, hB1⟩; unfold cfg nm)
    | (go_at_call 6; refine (within_any _ 7 (by omega) (by omega) _).mono ?_; rintro e w1 ⟨rfl, rfl⟩; rw [HM.out])
    | (go_at_call 15; rw [HK.out]; refine (new_any k hk2 hk9 _).mono ?_; rintro e w2 ⟨M, oM, E, oE, R, oR, rfl, hMm, hge, hB2⟩)
    | fail)
  generalize hC : w1.heap.size = C at *
  have hsz : ∀ o, (w1.alloc o).heap.size = C + 1 := fun o => by simp [hC]
  rw [hsz] at hge hB2
  have hbx : w2.cell? ⟨C, 5, none⟩ = some (.int .i64 k) := (hB2.cell (p := ⟨C, 5, none⟩) (by show C < C + 1; omega)).trans (World.cell?_alloc_at _ _ _ _ hC.symm)
  have hT0 : Tn W C M oM E oE R oR k (-1) 0 (fun _ => -1) w2 := ⟨hMm, hbx, ⟨by have := hB1.size; omega, by omega, by omega, by omega⟩, (hB1.alloc hB1.size _).trans (hB2.mono (by have := hB1.size; omega))⟩
  clear hMm hge hB2 hbx hB1 hsz hC
  go_loopw [10, 11] (fun h i wr => ∃ (j : Nat) (hv : Int), i = .int .i64 j ∧ h = .int .i64 hv ∧ Hid (hv = -1 ∨ ∃ q : Nat, hv = q) ∧ j ≤ 60 ∧ Tn W C M oM E oE R oR k hv 0 (fun _ => -1) wr) (fun _ i _ => 60 - (intOf i).toNat)
  case atStart => exact ⟨0, -1, rfl, rfl, Lib.hid (.inl rfl), by omega, hT0⟩
  case round =>
    clear hT0
    obtain ⟨j, hv, rfl, rfl, HI, hj, hT⟩ := hrel
    by_cases hin : j < len ∧ j < len' ∧ j < 60
    · obtain ⟨g1, g2, g3⟩ := hin
      obtain ⟨ad, rfl, hab, hc⟩ := ints_get hx g1
      obtain ⟨bd, rfl, hbb, hd⟩ := bools_get hy g2
      have hc0 : wr.cell? (ad.add j) = some (.int .i64 (xs[j]?.getD 0)) := (hT.bel.cell (by rw [block_of_add]; exact hab)).trans hc
      have hd0 : wr.cell? (bd.add j) = some (.bool (bs[j]?.getD false)) := (hT.bel.cell (by rw [block_of_add]; exact hbb)).trans hd
      have hbox := hT.box
      clear hc hd
      generalize xs[j]?.getD 0 = x at *
      generalize bs[j]?.getD false = b at *
      obtain ⟨c, hcl, hck⟩ := withinV_nat x k (by omega)
      have hcl' : withinV x ((k : Int) - 1 + 1) = c := by rw [show (k : Int) - 1 + 1 = k from by omega]; exact hcl
      have HC := Lib.hid hcl'
      clear hcl hcl'
      have hck1 : (c : Int) < k := by omega
      have hck0 : (0 : Int) ≤ c := by omega
      have HW : Hid (IntKind.i64.wrap ((k : Int) - 1) = (k : Int) - 1) := Lib.hid (IntWalk.i64_in _ (by omega))
      have F1 : Hid True := trivial
      have hT1 := hT.drew
      rcases HI.out with rfl | ⟨q, rfl⟩
      · cases b
        · have hne : ((-1 : Int) == (c : Int)) = false := by simp <;> omega
          have hne2 : ((-1 : Int) != (c : Int)) = true := by simp <;> omega
          have hw : wr.drew.cell? (ad.add j) = some (.int .i64 x) := hc0
          go_wp2
          go_region_held3 (fun w' => w'.cell? (ad.add j) = some (.int .i64 x) ∧ w'.cell? ⟨C, 5, none⟩ = some (.int .i64 k) ∧ w'.cell? (bd.add j) = some (.bool false)) (go_keep) (first | (go_at_call 6; rw [HW.out]; refine (within_any _ _ (by omega) (by omega) _).mono ?_; rintro e w' ⟨rfl, rfl⟩; rw [HC.out]))
          all_goals
            go_wp2_with (first
              | (go_at_call 16; clear F1; refine (dtake_yes hT1.mm c hck).mono ?_; rintro e w4 ⟨rfl, hb4⟩; have hT4 := hT1.hold hk2 _ hb4; unfold res)
              | (go_at_call 16; refine (dturn_any hT4.mm c hck).mono ?_; rintro e w5 ⟨rfl, hb5⟩; have hT5 := hT4.keep hk2 hb5; unfold res)
              | fail)
            go_roundw
            case rel => exact ⟨j + 1, c, by go_num, rfl, Lib.hid (.inr ⟨c, rfl⟩), by omega, hT5.keep (w := _) hk2 ((Below.refl _ _).alloc (Nat.le_refl _) _)⟩
            case measure => simp only [intOf]; omega
        · have hne : ((-1 : Int) == (c : Int)) = false := by simp <;> omega
          have hne2 : ((-1 : Int) != (c : Int)) = true := by simp <;> omega
          have hw : wr.drew.cell? (ad.add j) = some (.int .i64 x) := hc0
          go_wp2
          go_region_held3 (fun w' => w'.cell? (ad.add j) = some (.int .i64 x) ∧ w'.cell? ⟨C, 5, none⟩ = some (.int .i64 k) ∧ w'.cell? (bd.add j) = some (.bool true)) (go_keep) (first | (go_at_call 6; rw [HW.out]; refine (within_any _ _ (by omega) (by omega) _).mono ?_; rintro e w' ⟨rfl, rfl⟩; rw [HC.out]))
          all_goals
            go_wp2_with (first
              | (go_at_call 16; clear F1; refine (dgive_no hT1.mm c hck hne).mono ?_; rintro e w4 ⟨rfl, hb4⟩; have hT4 := hT1.keep hk2 hb4; unfold res)
              | (go_at_call 16; refine (dturn_any hT4.mm c hck).mono ?_; rintro e w5 ⟨rfl, hb5⟩; have hT5 := hT4.keep hk2 hb5; unfold res)
              | fail)
            go_roundw
            case rel => exact ⟨j + 1, (-1), by go_num, rfl, Lib.hid (.inl rfl), by omega, hT5.keep (w := _) hk2 ((Below.refl _ _).alloc (Nat.le_refl _) _)⟩
            case measure => simp only [intOf]; omega
      · by_cases hqc : q = c
        · subst hqc
          cases b
          · have hq0 : (0 : Int) ≤ (q : Int) := by omega
            have hq1 : (((q : Int) : Int) == -1) = false := by simp <;> omega
            have hq2 : ¬ ((q : Int) : Int) < 0 := by omega
            have hw : wr.drew.cell? (ad.add j) = some (.int .i64 x) := hc0
            go_wp2
            go_region_held3 (fun w' => w'.cell? (ad.add j) = some (.int .i64 x) ∧ w'.cell? ⟨C, 5, none⟩ = some (.int .i64 k) ∧ w'.cell? (bd.add j) = some (.bool false)) (go_keep) (first | (go_at_call 6; rw [HW.out]; refine (within_any _ _ (by omega) (by omega) _).mono ?_; rintro e w' ⟨rfl, rfl⟩; rw [HC.out]))
            all_goals
              go_wp2_with (first
                | (go_at_call 16; clear F1; refine (dtake_no hT1.mm q hck hq1).mono ?_; rintro e w4 ⟨rfl, hb4⟩; have hT4 := hT1.keep hk2 hb4; unfold res)
                | (go_at_call 16; refine (dturn_any hT4.mm q hck).mono ?_; rintro e w5 ⟨rfl, hb5⟩; have hT5 := hT4.keep hk2 hb5; unfold res)
                | fail)
              go_roundw
              case rel => exact ⟨j + 1, q, by go_num, rfl, Lib.hid (.inr ⟨q, rfl⟩), by omega, hT5.keep (w := _) hk2 ((Below.refl _ _).alloc (Nat.le_refl _) _)⟩
              case measure => simp only [intOf]; omega
          · have hq0 : (0 : Int) ≤ (q : Int) := by omega
            have hq1 : (((q : Int) : Int) == -1) = false := by simp <;> omega
            have hq2 : ¬ ((q : Int) : Int) < 0 := by omega
            have hw : wr.drew.cell? (ad.add j) = some (.int .i64 x) := hc0
            go_wp2
            go_region_held3 (fun w' => w'.cell? (ad.add j) = some (.int .i64 x) ∧ w'.cell? ⟨C, 5, none⟩ = some (.int .i64 k) ∧ w'.cell? (bd.add j) = some (.bool true)) (go_keep) (first | (go_at_call 6; rw [HW.out]; refine (within_any _ _ (by omega) (by omega) _).mono ?_; rintro e w' ⟨rfl, rfl⟩; rw [HC.out]))
            all_goals
              go_wp2_with (first
                | (go_at_call 16; clear F1; refine (dgive_yes hT1.mm hck).mono ?_; rintro e w4 ⟨rfl, hb4⟩; have hT4 := hT1.hold hk2 _ hb4; unfold res)
                | (go_at_call 16; refine (dturn_any hT4.mm q hck).mono ?_; rintro e w5 ⟨rfl, hb5⟩; have hT5 := hT4.keep hk2 hb5; unfold res)
                | fail)
              go_roundw
              case rel => exact ⟨j + 1, (-1), by go_num, rfl, Lib.hid (.inl rfl), by omega, hT5.keep (w := _) hk2 ((Below.refl _ _).alloc (Nat.le_refl _) _)⟩
              case measure => simp only [intOf]; omega
        · cases b
          · have hq0 : (0 : Int) ≤ (q : Int) := by omega
            have hq1 : (((q : Int) : Int) == -1) = false := by simp <;> omega
            have hq2 : ¬ ((q : Int) : Int) < 0 := by omega
            have hne : ((q : Int) == (c : Int)) = false := by simp <;> omega
            have hne2 : ((q : Int) != (c : Int)) = true := by simp <;> omega
            have hw : wr.drew.cell? (ad.add j) = some (.int .i64 x) := hc0
            go_wp2
            go_region_held3 (fun w' => w'.cell? (ad.add j) = some (.int .i64 x) ∧ w'.cell? ⟨C, 5, none⟩ = some (.int .i64 k) ∧ w'.cell? (bd.add j) = some (.bool false)) (go_keep) (first | (go_at_call 6; rw [HW.out]; refine (within_any _ _ (by omega) (by omega) _).mono ?_; rintro e w' ⟨rfl, rfl⟩; rw [HC.out]))
            all_goals
              go_wp2_with (first
                | (go_at_call 16; clear F1; refine (dtake_no hT1.mm c hck hq1).mono ?_; rintro e w4 ⟨rfl, hb4⟩; have hT4 := hT1.keep hk2 hb4; unfold res)
                | (go_at_call 16; refine (dturn_any hT4.mm c hck).mono ?_; rintro e w5 ⟨rfl, hb5⟩; have hT5 := hT4.keep hk2 hb5; unfold res)
                | fail)
              go_roundw
              case rel => exact ⟨j + 1, q, by go_num, rfl, Lib.hid (.inr ⟨q, rfl⟩), by omega, hT5.keep (w := _) hk2 ((Below.refl _ _).alloc (Nat.le_refl _) _)⟩
              case measure => simp only [intOf]; omega
          · have hq0 : (0 : Int) ≤ (q : Int) := by omega
            have hq1 : (((q : Int) : Int) == -1) = false := by simp <;> omega
            have hq2 : ¬ ((q : Int) : Int) < 0 := by omega
            have hne : ((q : Int) == (c : Int)) = false := by simp <;> omega
            have hne2 : ((q : Int) != (c : Int)) = true := by simp <;> omega
            have hw : wr.drew.cell? (ad.add j) = some (.int .i64 x) := hc0
            go_wp2
            go_region_held3 (fun w' => w'.cell? (ad.add j) = some (.int .i64 x) ∧ w'.cell? ⟨C, 5, none⟩ = some (.int .i64 k) ∧ w'.cell? (bd.add j) = some (.bool true)) (go_keep) (first | (go_at_call 6; rw [HW.out]; refine (within_any _ _ (by omega) (by omega) _).mono ?_; rintro e w' ⟨rfl, rfl⟩; rw [HC.out]))
            all_goals
              go_wp2_with (first
                | (go_at_call 16; clear F1; refine (dgive_no hT1.mm c hck hne).mono ?_; rintro e w4 ⟨rfl, hb4⟩; have hT4 := hT1.keep hk2 hb4; unfold res)
                | (go_at_call 16; refine (dturn_any hT4.mm c hck).mono ?_; rintro e w5 ⟨rfl, hb5⟩; have hT5 := hT4.keep hk2 hb5; unfold res)
                | fail)
              go_roundw
              case rel => exact ⟨j + 1, q, by go_num, rfl, Lib.hid (.inr ⟨q, rfl⟩), by omega, hT5.keep (w := _) hk2 ((Below.refl _ _).alloc (Nat.le_refl _) _)⟩
              case measure => simp only [intOf]; omega
    · have HI := Lib.hid hin
      clear hin
      go_wp2_with (first
        | (go_at_call 17; refine (memRuns_any _).mono ?_; rintro e w9 ⟨rfl, hb9⟩)
        | fail)
      all_goals first
        | (exfalso; have := HI.out; omega)
        | (go_ret; exact ⟨rfl, hT.bel.trans (hb9.mono hT.bel.size)⟩)
end Go.Proofs.Ytlkanknmjkeagaa
