/-
  PostingRuns; no condition.
-/
import Derived.Test.YtokjeglhmmijfaaPsg
import Derived.Test.YtokjeglhmmijfaaPsh
import Derived.Deep.RegionHeld3
namespace Go.Proofs.Ytokjeglhmmijfaa
open Go.RowKit Go.WideShapes Go.ChangeShapes
set_option linter.all false
def F0 : Nat → Prop := fun _ => False
theorem F0_lt (w : World) : ∀ b, F0 b → b < w.heap.size := fun _ h => h.elim
def R0 : List (List Nat) := [seqN 0 16]
def R1 : List (List Nat) := [seqN 0 9, seqN 9 8]
def R2 : List (List Nat) := [seqN 1 16]
theorem of_r : chunkL ((16 + 15) / 16) (seqN 0 16) = R0 := by decide
theorem add_r : addL 16 R0 = R1 := by decide
theorem rem_r : remL 0 R1 = R2 := by decide
theorem asc_r : ascB 0 (seqN 0 16) = true := by decide
theorem has_r0 : hasB ((16 : Nat) : Int) R0.flatten = false := by decide
theorem has_r1 : hasB ((0 : Nat) : Int) R1.flatten = true := by decide
theorem rl0 : RL R0 := ⟨by decide, by decide⟩
theorem rl1 : RL R1 := ⟨by decide, by decide⟩
theorem rl2 : RL R2 := ⟨by decide, by decide⟩
/-- Three boxes and what they hold. -/
structure Bx (w : World) (b1 b3 b5 : Nat) (v1 v3 v5 : Value) (W : World) : Prop where
  bel : Below w.heap.size w W
  c1 : W.cell? ⟨b1, 0, none⟩ = some v1
  c3 : W.cell? ⟨b3, 0, none⟩ = some v3
  c5 : W.cell? ⟨b5, 0, none⟩ = some v5
  l1 : b1 < W.heap.size
  l3 : b3 < W.heap.size
  l5 : b5 < W.heap.size
theorem Bx.on {w W W' : World} {b1 b3 b5 : Nat} {v1 v3 v5 : Value} (h : Bx w b1 b3 b5 v1 v3 v5 W) (hb : Below W.heap.size W W') : Bx w b1 b3 b5 v1 v3 v5 W' :=
  ⟨h.bel.trans (hb.mono h.bel.size), (hb.cell (p := ⟨b1, 0, none⟩) h.l1).trans h.c1, (hb.cell (p := ⟨b3, 0, none⟩) h.l3).trans h.c3, (hb.cell (p := ⟨b5, 0, none⟩) h.l5).trans h.c5, Nat.lt_of_lt_of_le h.l1 hb.size, Nat.lt_of_lt_of_le h.l3 hb.size, Nat.lt_of_lt_of_le h.l5 hb.size⟩
set_option maxRecDepth 100000 in
set_option maxHeartbeats 3200000 in
theorem runs_any (w : World) : Calls Try.prog 3 #[] w fun e w' => e = .returned (.bool true) ∧ Below w.heap.size w w' := by
  go_enter Try.func3, Try.ntmps3
  go_upto_region 2 with (first
    | (go_at_call 11; refine (upto_any 0 16 15 (by omega) (by omega) (by omega) _).mono ?_; rintro e w1 ⟨A1, c1, rfl, hb1, hm1⟩
       rw [seqN_len] at hm1 ⊢
       have HB1 := Lib.hid hb1
       have HM1 := Lib.hid hm1
       clear hb1 hm1)
    | (go_at_call 10; refine (of_yes F0 w1 (F0_lt _) A1 16 c1 (seqN 0 16) HM1.out.sk (by omega) asc_r).mono ?_
       rw [of_r]
       rintro e w2 ⟨A2, c2, rfl, hb2, hp2⟩
       have HB2 := Lib.hid (HB1.out.trans (hb2.mono HB1.out.size))
       have HP2 : Hid (PLF w2 F0 A2 1 c2 R0) := Lib.hid hp2
       clear hb2 hp2
       clear HB1 HM1)
    | fail)
  obtain ⟨W2, hW2⟩ : ∃ W2, W2 = w2.alloc (Obj.cells #[Value.slice A2 R0.length c2] 24) := ⟨_, rfl⟩
  have HX2 : Hid (PBox A2 R0.length c2 w2 W2) := Lib.hid (by rw [hW2]; exact PBox.new _ _ _ _)
  have p1 : W2.cell? ⟨w2.heap.size, 0, none⟩ = some (.slice A2 R0.length c2) := HX2.out.cell
  have HQ2 : Hid (PLF W2 F0 A2 1 c2 R0) := Lib.hid (HP2.out.on HX2.out.bel)
  rw [← hW2]
  clear hW2
  go_upto_region 3 with (first
    | (go_at_call 12; refine (add_more W2 F0 (F0_lt _) A2 1 c2 R0 16 HQ2.out rl0 (by omega) (by decide) (by omega) has_r0).mono ?_
       rw [add_r]
       rintro e w3 ⟨A3, c3, rfl, hb3, hp3⟩
       have HB3 := Lib.hid hb3
       have HP3 : Hid (PLF w3 F0 A3 2 c3 R1) := Lib.hid hp3
       clear hb3 hp3)
    | fail)
  obtain ⟨W3, hW3⟩ : ∃ W3, W3 = w3.alloc (Obj.cells #[Value.slice A3 R1.length c3] 24) := ⟨_, rfl⟩
  have HX3 : Hid (PBox A3 R1.length c3 w3 W3) := Lib.hid (by rw [hW3]; exact PBox.new _ _ _ _)
  have p3 : W3.cell? ⟨w3.heap.size, 0, none⟩ = some (.slice A3 R1.length c3) := HX3.out.cell
  have HQ3 : Hid (PLF W3 F0 A3 2 c3 R1) := Lib.hid (HP3.out.on HX3.out.bel)
  have HY2 : Hid (PBox A2 R0.length c2 w2 W3) := Lib.hid ((HX2.out.on HB3.out).on HX3.out.bel)
  rw [← hW3]
  clear hW3 p1
  go_upto_region 4 with (first
    | (go_at_call 13; refine (rem_yes W3 F0 (F0_lt _) A3 2 c3 R1 0 HQ3.out rl1 (by omega) has_r1).mono ?_
       rw [rem_r]
       rintro e w4 ⟨A4, c4, rfl, hb4, hp4⟩
       have HB4 := Lib.hid hb4
       have HP4 : Hid (PLF w4 F0 A4 1 c4 R2) := Lib.hid hp4
       clear hb4 hp4)
    | fail)
  obtain ⟨W4, hW4⟩ : ∃ W4, W4 = w4.alloc (Obj.cells #[Value.slice A4 R2.length c4] 24) := ⟨_, rfl⟩
  have HX4 : Hid (PBox A4 R2.length c4 w4 W4) := Lib.hid (by rw [hW4]; exact PBox.new _ _ _ _)
  have HY3 : Hid (PBox A3 R1.length c3 w3 W4) := Lib.hid ((HX3.out.on HB4.out).on HX4.out.bel)
  have HZ2 : Hid (PBox A2 R0.length c2 w2 W4) := Lib.hid ((HY2.out.on HB4.out).on HX4.out.bel)
  have HBW : Hid (Below w.heap.size w W4) := Lib.hid
    ((HB2.out.trans ((HX2.out.bel.trans (HB3.out.mono HX2.out.bel.size)).trans (HX3.out.bel.mono (by have := HX2.out.bel.size; have := HB3.out.size; omega)) |>.mono HB2.out.size)).trans ((HB4.out.trans (HX4.out.bel.mono HB4.out.size)).mono (by have := HB2.out.size; have := HX2.out.bel.size; have := HB3.out.size; have := HX3.out.bel.size; omega)))
  have HBX : Hid (Bx W4 w2.heap.size w3.heap.size w4.heap.size (.slice A2 1 c2) (.slice A3 2 c3) (.slice A4 1 c4) W4) := Lib.hid
    ⟨Below.refl _ _, HZ2.out.cell, HY3.out.cell, HX4.out.cell, HZ2.out.lt, HY3.out.lt, HX4.out.lt⟩
  have HL1 : Hid (PLF W4 F0 A2 1 c2 R0) := Lib.hid (((HQ2.out.on HB3.out).on HX3.out.bel).on HB4.out |>.on HX4.out.bel)
  have HL3 : Hid (PLF W4 F0 A3 2 c3 R1) := Lib.hid ((HQ3.out.on HB4.out).on HX4.out.bel)
  have HL5 : Hid (PLF W4 F0 A4 1 c4 R2) := Lib.hid (HP4.out.on HX4.out.bel)
  rw [← hW4]
  clear hW4 p3 HX2 HX3 HX4 HY2 HY3 HZ2 HP2 HP3 HP4 HQ2 HQ3
  obtain ⟨b1, hb1⟩ : ∃ b, b = w2.heap.size := ⟨_, rfl⟩
  obtain ⟨b3, hb3⟩ : ∃ b, b = w3.heap.size := ⟨_, rfl⟩
  obtain ⟨b5, hb5⟩ : ∃ b, b = w4.heap.size := ⟨_, rfl⟩
  rw [← hb1, ← hb3, ← hb5] at HBX ⊢
  clear hb1 hb3 hb5 HB2 HB3 HB4
  rw [show R0.length = 1 from rfl, show R1.length = 2 from rfl, show R2.length = 1 from rfl]
  have q1 := HBX.out.c1
  have q3 := HBX.out.c3
  have q5 := HBX.out.c5
  go_region_held3 (fun W' => W'.cell? ⟨b1, 0, none⟩ = some (.slice A2 1 c2) ∧ W'.cell? ⟨b3, 0, none⟩ = some (.slice A3 2 c3) ∧ W'.cell? ⟨b5, 0, none⟩ = some (.slice A4 1 c4)) (first | (go_keep; done) | exact ⟨HBX.out.c1, HBX.out.c3, HBX.out.c5⟩) (first
    | (go_at_call 15; have _ := HM8; refine (len_any A2 1 c2 R0 _ ((HL1.out.on (show Bx W4 b1 b3 b5 (.slice A2 1 c2) (.slice A3 2 c3) (.slice A4 1 c4) _ from (by first | exact HBX.out | exact HBX.out.on (below_drew _) | exact HBX.out.on (below_alloc _ _))).bel).pl) rl0 (by omega)).mono ?_; rintro e w10 ⟨rfl, hb10⟩
       rw [show R0.flatten.length = 16 from by decide]
       have HBX := Lib.hid (show Bx W4 b1 b3 b5 (.slice A2 1 c2) (.slice A3 2 c3) (.slice A4 1 c4) _ from (by first | exact HBX.out.on hb10 | exact (HBX.out.on (below_drew _)).on hb10 | exact (HBX.out.on (below_alloc _ _)).on hb10))
       have q1 := HBX.out.c1
       have q3 := HBX.out.c3
       have q5 := HBX.out.c5
       clear hb10)
    | (go_at_call 14; have _ := HM8; refine (blocksEq_any A4 (some ⟨w8.heap.size, 0, none⟩) 1 c4 1 1 R2 [⟨A8, 16, c8, nb (seqN 1 16)⟩] _ ((HL5.out.on (show Bx W4 b1 b3 b5 (.slice A2 1 c2) (.slice A3 2 c3) (.slice A4 1 c4) _ from (by first | exact HBX.out | exact HBX.out.on (below_drew _) | exact HBX.out.on (below_alloc _ _))).bel).pl) rl2 (by omega) (LK.lit 28 [⟨A8, 16, c8, nb (seqN 1 16)⟩] #[.slice A8 16 c8] rfl (by simp) (by intro e he; simp only [List.mem_singleton] at he; subst he; exact HM8.out)) rfl).mono ?_; rintro e w9 ⟨rfl, hb9⟩
       have HBX := Lib.hid (show Bx W4 b1 b3 b5 (.slice A2 1 c2) (.slice A3 2 c3) (.slice A4 1 c4) _ from (by first | exact HBX.out.on hb9 | exact (HBX.out.on (below_drew _)).on hb9 | exact (HBX.out.on (below_alloc _ _)).on hb9))
       have q1 := HBX.out.c1
       have q3 := HBX.out.c3
       have q5 := HBX.out.c5
       clear hb9)
    | (go_at_call 11; have _ := HM7; refine (upto_any 1 16 16 (by omega) (by omega) (by omega) _).mono ?_; rintro e w8 ⟨A8, c8, rfl, hb8, hm8⟩
       rw [seqN_len] at hm8 ⊢
       have HBX := Lib.hid (show Bx W4 b1 b3 b5 (.slice A2 1 c2) (.slice A3 2 c3) (.slice A4 1 c4) _ from (by first | exact HBX.out.on hb8 | exact (HBX.out.on (below_drew _)).on hb8 | exact (HBX.out.on (below_alloc _ _)).on hb8))
       have HM8 := Lib.hid hm8.sk
       have q1 := HBX.out.c1
       have q3 := HBX.out.c3
       have q5 := HBX.out.c5
       clear hb8 hm8)
    | (go_at_call 14; have _ := HM6; refine (blocksEq_any A3 (some ⟨w6.heap.size, 0, none⟩) 2 c3 2 2 R1 [⟨A5, 9, c5, nb (seqN 0 9)⟩, ⟨A6, 8, c6, nb (seqN 9 8)⟩] _ ((HL3.out.on (show Bx W4 b1 b3 b5 (.slice A2 1 c2) (.slice A3 2 c3) (.slice A4 1 c4) _ from (by first | exact HBX.out | exact HBX.out.on (below_drew _) | exact HBX.out.on (below_alloc _ _))).bel).pl) rl1 (by omega) (LK.lit 28 [⟨A5, 9, c5, nb (seqN 0 9)⟩, ⟨A6, 8, c6, nb (seqN 9 8)⟩] #[.slice A5 9 c5, .slice A6 8 c6] rfl (by simp) (by intro e he; simp only [List.mem_cons, List.not_mem_nil, or_false] at he; rcases he with rfl | rfl; exact HM5.out; exact HM6.out)) rfl).mono ?_; rintro e w7 ⟨rfl, hb7⟩
       have HBX := Lib.hid (show Bx W4 b1 b3 b5 (.slice A2 1 c2) (.slice A3 2 c3) (.slice A4 1 c4) _ from (by first | exact HBX.out.on hb7 | exact (HBX.out.on (below_drew _)).on hb7 | exact (HBX.out.on (below_alloc _ _)).on hb7))
       have HM7 := HM6
       have q1 := HBX.out.c1
       have q3 := HBX.out.c3
       have q5 := HBX.out.c5
       clear hb7)
    | (go_at_call 11; have _ := HM5; refine (upto_any 9 8 16 (by omega) (by omega) (by omega) _).mono ?_; rintro e w6 ⟨A6, c6, rfl, hb6, hm6⟩
       rw [seqN_len] at hm6 ⊢
       have HBX := Lib.hid (show Bx W4 b1 b3 b5 (.slice A2 1 c2) (.slice A3 2 c3) (.slice A4 1 c4) _ from (by first | exact HBX.out.on hb6 | exact (HBX.out.on (below_drew _)).on hb6 | exact (HBX.out.on (below_alloc _ _)).on hb6))
       have HM6 := Lib.hid hm6.sk
       have HM5 := Lib.hid (HM5.out.on hb6)
       have q1 := HBX.out.c1
       have q3 := HBX.out.c3
       have q5 := HBX.out.c5
       clear hb6 hm6)
    | (go_at_call 11; refine (upto_any 0 9 8 (by omega) (by omega) (by omega) _).mono ?_; rintro e w5 ⟨A5, c5, rfl, hb5, hm5⟩
       rw [seqN_len] at hm5 ⊢
       have HBX := Lib.hid (show Bx W4 b1 b3 b5 (.slice A2 1 c2) (.slice A3 2 c3) (.slice A4 1 c4) _ from (by first | exact HBX.out.on hb5 | exact (HBX.out.on (below_drew _)).on hb5 | exact (HBX.out.on (below_alloc _ _)).on hb5))
       have HM5 := Lib.hid hm5.sk
       have q1 := HBX.out.c1
       have q3 := HBX.out.c3
       have q5 := HBX.out.c5
       clear hb5 hm5)
    | fail)
  all_goals
    go_wp2
    go_ret
    exact ⟨rfl, HBW.out.trans (HBX.out.bel.mono HBW.out.size)⟩
end Go.Proofs.Ytokjeglhmmijfaa
