/-
  The law BlockBounds at any number, gaps and cut: the walk; no condition beyond lengths that fit an int.
-/
import Derived.Test.YtoinanbpiemfoaaBkC
namespace Go.Proofs.Ytoinanbpiemfoaa
open Go.RowKit Go.WideShapes Go.ChangeShapes
set_option linter.all false
def lenV : Value → Nat
  | .slice _ n _ => n
  | _ => 0
set_option maxRecDepth 100000 in
set_option maxHeartbeats 6400000 in
theorem bounds_any (first cut : Int) (A : Option Addr) (n c : Nat) (xs : List Int) (w : World) (hx : Reads w w.heap.size 1 A n (ks .i64 xs)) (hn : n ≤ 9223372036854775807) :
    Calls Try.prog 5 #[.int .i64 first, .slice A n c, .int .i64 cut] w fun e w' => e = .returned (.bool true) ∧ Below w.heap.size w w' := by
  obtain ⟨i0, hi0, hz0, hz1, hz2⟩ := info_parts infoI
  obtain ⟨x0, hx0, hx09⟩ := withinV_nat first 1001 (by omega)
  have hx0' : withinV first (1000 + 1) = x0 := hx0
  have HX0 := Lib.hid hx0'
  clear hx0 hx0'
  have HX := Lib.hid hx
  clear hx
  go_enter Try.func5, Try.ntmps5
  go_wp2_with (first
    | (go_at_call 19; refine (within_any _ 1000 (by omega) (by omega) _).mono ?_; rintro e w1 ⟨rfl, hw1⟩; rw [HX0.out, ← hw1]; clear hw1)
    | fail)
  go_loopw [7, 8, 9] (fun a b i wr => ∃ (v : Value) (ls : List Nat) (x j : Nat), a = .int .i64 x ∧ b = v ∧ i = .int .i64 j ∧ j ≤ 15 ∧ x ≤ 1000 + j * 100001 ∧ Hid (Mid wr w.heap.size 3 1 v ls.length (ks .i64 (nb ls)) ∧ Below w.heap.size w wr ∧ Up ls x ∧ ls.length = j + 1)) (fun _ _ i _ => 15 - (intOf i).toNat)
  case atStart => exact ⟨_, [x0], x0, 0, rfl, rfl, rfl, by omega, by omega, Lib.hid ⟨Mid.lit (Nat.le_refl _) _, (Below.refl _ _).alloc (Nat.le_refl _) _, ⟨by simp [ascB]; omega, rfl⟩, rfl⟩⟩
  case round =>
    obtain ⟨v, ls, x, j, rfl, hv, rfl, hj, hxj, HI⟩ := hrel
    subst hv
    obtain ⟨A1, c1, hv⟩ := HI.out.1.form
    subst hv
    by_cases hin : j < n ∧ j < 15
    · obtain ⟨g1, g2⟩ := hin
      obtain ⟨ad, rfl, h1⟩ := HX.out.kat g1
      rw [← HI.out.2.1.cell (by rw [block_of_add]; exact World.block_lt_of_cell? _ _ h1 |> fun h => by rwa [block_of_add] at h)] at h1
      generalize xs.getD j 0 = gp at *
      obtain ⟨m, hm, hm9⟩ := withinV_nat gp 100001 (by omega)
      have hm' : withinV gp (100000 + 1) = m := hm
      have HM := Lib.hid hm'
      clear hm hm'
      have hj1 : (j : Int) < n := by omega
      have hj0 : (0 : Int) ≤ j := by omega
      generalize hL : ls.length = L at *
      have HL := Lib.hid hL
      clear hL
      have hL16 : L ≤ 16 := by have := HI.out.2.2.2; omega
      go_wp2_with (first
        | (go_at_call 19; refine (within_any _ 100000 (by omega) (by omega) _).mono ?_; rintro e w1 ⟨rfl, hw1⟩; rw [HM.out, ← hw1]; clear hw1)
        | (refine wpList_append_keep (by rfl) (.tmp 37) (.tmp 39) 22 rfl w.heap.size 3 i0 _ 1 8 Try.underlying22 hi0 hz0 hz1 hz2 rfl (by omega) (.slice A1 L c1) _ _ rfl (HI.out.1.same fun g hg => Below.heap_alloc wr _ g (HI.out.1.lt g hg).2) ⟨wr.heap.size, 0, none⟩ 1 1 [.int .i64 _] rfl rfl (World.news_of_block (cs := #[.int .i64 _]) (t := 3) (fr := (0, 0)) (heap_alloc_new wr _)) (by simp [Value.oneCell']) (by unfold maxLen; omega) (by omega) (by have := HI.out.2.1.size; simp; omega) ?_
           intro v' w3 hmm hran hold
           have HMM := Lib.hid hmm
           have HRN := Lib.hid hran
           clear hmm hran hold)
        | fail)
      have HN : Hid (Mid w3 w.heap.size 3 1 v' (ls ++ [x + 1 + m]).length (ks .i64 (nb (ls ++ [x + 1 + m]))) ∧ Below w.heap.size w w3 ∧ Up (ls ++ [x + 1 + m]) (x + 1 + m) ∧ (ls ++ [x + 1 + m]).length = j + 1 + 1) := Lib.hid ⟨by
          have hmm := HMM.out
          rw [List.length_append, HL.out, nb_append, ks_append]
          rw [show (x : Int) + 1 + m = ((x + 1 + m : Nat) : Int) by omega] at hmm
          exact hmm, HI.out.2.1.grown (HRN.out.alloc).grown HI.out.2.1.size (fun g hg => (HI.out.1.lt g hg).1), HI.out.2.2.1.snoc (by omega) (by omega), by rw [List.length_append, HL.out]; have := HI.out.2.2.2; simp; omega⟩
      clear HMM HRN
      go_roundw
      case rel => exact ⟨_, ls ++ [x + 1 + m], x + 1 + m, j + 1, by go_num, rfl, by go_num, by omega, by omega, HN⟩
      case measure => simp only [intOf]; omega
    · have hstop : ¬ j < n ∨ ¬ j < 15 := by omega
      clear hin
      have HUP := Lib.hid HI.out.2.2.1
      have hll := HI.out.2.2.2
      have HLl := Lib.hid hll
      have hL17 : ls.length ≤ 16 := by omega
      have hL1 : 1 ≤ ls.length := by omega
      clear hll
      have HR := Lib.hid (HUP.out.right hL17)
      have HRI := Lib.hid (encX_nb HR.out).1
      have HEX : Hid (encX (nb ls) = encGo 0 ls) := Lib.hid (encX_nb HR.out).2
      have hge : ls.length ≤ (encX (nb ls)).length := by rw [HEX.out]; exact enc_ge ls 0
      have HRS := Lib.hid HI.out.1.reads
      obtain ⟨a1, rfl, _⟩ : ∃ a1, A1 = some a1 ∧ True := by
        obtain ⟨a1, e, _⟩ := HRS.out.2 (by omega)
        exact ⟨a1, e, trivial⟩
      have HDUP := Lib.hid HUP.out.dup
      have HB0 := Lib.hid HI.out.2.1
      have HM0 := Lib.hid HI.out.1
      clear HI
      generalize hL : ls.length = L at *
      have HL := Lib.hid hL
      clear hL
      generalize hE : (encX (nb ls)).length = E at *
      have HE := Lib.hid hE
      clear hE
      have hEL : ¬ (E : Int) < L := by omega
      have hEL2 : decide (E < L) = false := decide_eq_false (by omega)
      have F1 : Hid True := Lib.hid trivial
      have F2 : Hid True := Lib.hid trivial
      obtain ⟨k, hk, hk9⟩ := withinV_nat cut (E + 1) (by omega)
      have hk' : withinV cut ((E : Int) + 1) = k := hk
      have HK := Lib.hid hk'
      clear hk hk'
      have hLc : L ≤ c1 := HM0.out.cap
      have hx9 : x ≤ 1600000 := by omega
      rcases (show (¬ j < n) ∨ (j < n ∧ ¬ j < 15) by omega) with hs1 | ⟨hs1, hs2⟩
      all_goals
        cases hdc : decP ((encX (nb ls)).take k) with
        | none =>
          have HDG : Hid ((decP ((encX (nb ls)).take k)).getD [] = []) := Lib.hid (by rw [hdc]; rfl)
          have HDC : Hid (codeO (decP ((encX (nb ls)).take k)) = 5) := Lib.hid (by rw [hdc]; rfl)
          clear hdc hstop
          have R1 : Hid True := Lib.hid trivial
          have R2 : Hid True := Lib.hid trivial
          have HNIL : Hid (rightI [] = false) := Lib.hid (right_no (by simp))
          go_wp2_with (first
            | (go_at_call 13; refine (encode_any (some a1) L c1 (nb ls) _ HRS.out (by omega)).mono ?_; rintro e w4 hp; obtain ⟨A4, c4, rfl, hb4, hm4, hl4⟩ := hp.at_; rw [HE.out] at hm4 hl4 ⊢; have M4 := Lib.hid hm4; have B4 := Lib.hid hb4; have L4 := Lib.hid hl4; have C4 := Lib.hid hm4.cap; clear hm4 hb4 hl4; have hkc : (k : Int) ≤ c4 := (by have := C4.out; omega); have hkc2 : k ≤ c4 := (by have := C4.out; omega))
            | (go_at_call 10; clear R1; refine (right_any w4.heap.size (some a1) L c1 (nb ls) _ (HRS.out.on B4.out) (by omega)).mono ?_; rintro e w' ⟨rfl, hw'⟩; rw [hw', HRI.out]; clear hw')
            | (go_at_call 10; clear R2; refine (right_any w4.heap.size none 0 0 [] _ Reads.none_ (by omega)).mono ?_; rintro e w' ⟨rfl, hw'⟩; rw [hw', HNIL.out]; clear hw')
            | (go_at_call 10; refine (right_any w6.heap.size _ (L + 1) _ (nb (ls ++ [x])) _ M6.out.reads (by omega)).mono ?_; rintro e w' ⟨rfl, hw'⟩; rw [hw', HDUP.out]; clear hw')
            | (refine wpList_append_keep (by first | rfl | kernel_rfl) (.tmp 57) (.tmp 58) 22 rfl w4.heap.size 3 i0 _ 1 8 Try.underlying22 hi0 hz0 hz1 hz2 rfl (by omega) (.slice (some ⟨w4.heap.size, 0, none⟩) 0 0) 0 _ rfl (Mid.empty (Nat.le_refl _)) a1 L c1 (ks .i64 (nb ls)) rfl (by simp [ks_len, nb_len, HL.out]) (((HRS.out.on B4.out).alloc (Nat.le_refl _) _).cells) (by first | exact ks_one _ _ | simp [Value.oneCell']) (by unfold maxLen; omega) (by omega) (by simp) ?_
               intro v' w5 hmm hran hold
               have hm5 : Mid w5 w4.heap.size 3 1 v' L (ks .i64 (nb ls)) := (by rw [Nat.zero_add, List.nil_append] at hmm; exact hmm)
               have B5 := Lib.hid (below_fresh hran)
               obtain ⟨A5, c5, e5⟩ := hm5.form
               subst e5
               have M5 := Lib.hid hm5
               clear hm5
               clear hmm hran hold)
            | (refine wpList_append_keep (by first | rfl | kernel_rfl) (.tmp 59) (.tmp 61) 22 rfl w4.heap.size 3 i0 _ 1 8 Try.underlying22 hi0 hz0 hz1 hz2 rfl (by omega) (.slice A5 L c5) L _ rfl (M5.out.same fun g hg => Below.heap_alloc w5 _ g (M5.out.lt g hg).2) ⟨w5.heap.size, 0, none⟩ 1 1 [.int .i64 _] rfl (by simp [ks_len, nb_len, HL.out]) (World.news_of_block (cs := #[.int .i64 _]) (t := 3) (fr := (0, 0)) (heap_alloc_new w5 _)) (by first | exact ks_one _ _ | simp [Value.oneCell']) (by unfold maxLen; omega) (by omega) (by have := B5.out.size; simp; omega) ?_
               intro v' w6 hmm hran hold
               have hm6 : Mid w6 w4.heap.size 3 1 v' (L + 1) (ks .i64 (nb (ls ++ [x]))) := (by rw [nb_append, ks_append]; exact hmm)
               have B6 := Lib.hid (B5.out.grown hran.alloc.grown B5.out.size fun g hg => (M5.out.lt g hg).1)
               obtain ⟨A6, c6, e6⟩ := hm6.form
               subst e6
               have M6 := Lib.hid hm6
               clear hm6
               clear hmm hran hold)
            | (go_at_call 19; refine (within_any _ E (by omega) (by have := L4.out; omega) _).mono ?_; rintro e w' ⟨rfl, hw'⟩; rw [HK.out, ← hw']; clear hw')
            | (go_at_call 8; refine (decode_any A4 k c4 ((encX (nb ls)).take k) w6 (by rw [nb_take]; exact (M4.out.reads.on B6.out).take (by omega)) (fun b h => encX_byte (nb ls) b (List.mem_of_mem_take h)) (by have := C4.out; omega) (by have := L4.out; omega)).mono ?_; rintro e w7 hp; obtain ⟨A7, c7, rfl, hb7, hm7⟩ := hp.at_; rw [HDC.out]; rw [HDG.out] at hm7 ⊢; have M7 := Lib.hid hm7; have B7 := Lib.hid hb7; clear hm7 hb7)
            | (refine wpList_append_keep (by first | rfl | kernel_rfl) (.tmp 103) (.tmp 104) 22 rfl w7.heap.size 3 i0 _ 1 8 Try.underlying22 hi0 hz0 hz1 hz2 rfl (by omega) (.slice (some ⟨w7.heap.size, 0, none⟩) 0 0) 0 _ rfl (Mid.empty (Nat.le_refl _)) a1 L c1 (ks .i64 (nb ls)) rfl (by simp [ks_len, nb_len, HL.out]) (((HRS.out.on (after (after B4.out B6.out) B7.out)).alloc (Nat.le_refl _) _).cells) (by first | exact ks_one _ _ | simp [Value.oneCell']) (by unfold maxLen; omega) (by omega) (by simp) ?_
               intro v' w9 hmm hran hold
               have hm9 : Mid w9 w7.heap.size 3 1 v' L (ks .i64 (nb ls)) := (by rw [Nat.zero_add, List.nil_append] at hmm; exact hmm)
               have B9 := Lib.hid (below_fresh hran)
               have M9 := Lib.hid hm9
               clear hm9
               clear hmm hran hold)
            | fail)
          have HBW : Hid (Below w.heap.size w w7) := Lib.hid (after (after (after HB0.out B4.out) B6.out) B7.out)
          have HL9 : Hid (Mid w9 w7.heap.size 3 1 v' ls.length (ks .i64 (nb ls)) ∧ Below w7.heap.size w7 w9 ∧ Up ls x) := Lib.hid ⟨by rw [HL.out]; exact M9.out, B9.out, HUP.out⟩
          go_loopw [7, 14] (fun a b wr => ∃ (v : Value) (ms : List Nat) (y : Nat), a = .int .i64 y ∧ b = v ∧ y ≤ 1600000 + ms.length ∧ ms.length ≤ 16 ∧ Hid (Mid wr w7.heap.size 3 1 v ms.length (ks .i64 (nb ms)) ∧ Below w7.heap.size w7 wr ∧ Up ms y)) (fun _ b _ => 16 - lenV b)
          case atStart => exact ⟨_, ls, x, rfl, rfl, by omega, by rw [HL.out]; omega, HL9⟩
          case round =>
            clear HL9
            obtain ⟨v, ms, z, rfl, hv, hz9, hm16, HI⟩ := hrel
            subst hv
            obtain ⟨A2, c2, hv⟩ := HI.out.1.form
            subst hv
            generalize hN : ms.length = N at *
            have HN := Lib.hid hN
            clear hN
            have F3 : Hid True := Lib.hid trivial
            by_cases hlt : N < 16
            · have hlt' : (N : Int) < 16 := by omega
              go_wp2_with (first
                | (refine wpList_append_keep (by first | rfl | kernel_rfl) (.tmp 111) (.tmp 113) 22 rfl w7.heap.size 3 i0 _ 1 8 Try.underlying22 hi0 hz0 hz1 hz2 rfl (by omega) (.slice A2 N c2) N _ rfl (HI.out.1.same fun g hg => Below.heap_alloc wr _ g (HI.out.1.lt g hg).2) ⟨wr.heap.size, 0, none⟩ 1 1 [.int .i64 _] rfl (by simp [ks_len, nb_len, HN.out]) (World.news_of_block (cs := #[.int .i64 _]) (t := 3) (fr := (0, 0)) (heap_alloc_new wr _)) (by first | exact ks_one _ _ | simp [Value.oneCell']) (by unfold maxLen; omega) (by omega) (by have := HI.out.2.1.size; simp; omega) ?_
                   intro v' w3 hmm hran hold
                   obtain ⟨A3, c3, rfl⟩ := hmm.form
                   have HMM := Lib.hid hmm
                   have HRN := Lib.hid hran
                   clear hmm hran hold)
                | fail)
              have HNX : Hid (Mid w3 w7.heap.size 3 1 (.slice A3 (N + 1) c3) (ms ++ [z + 1]).length (ks .i64 (nb (ms ++ [z + 1]))) ∧ Below w7.heap.size w7 w3 ∧ Up (ms ++ [z + 1]) (z + 1)) := Lib.hid ⟨by
                  have hmm := HMM.out
                  rw [List.length_append, HN.out, nb_append, ks_append]
                  rw [show (z : Int) + 1 = ((z + 1 : Nat) : Int) by omega] at hmm
                  exact hmm, HI.out.2.1.grown (HRN.out.alloc).grown HI.out.2.1.size (fun g hg => (HI.out.1.lt g hg).1), HI.out.2.2.snoc (by omega) (by omega)⟩
              clear HMM HRN
              go_roundw
              case rel => exact ⟨_, ms ++ [z + 1], z + 1, by go_num, rfl, by rw [List.length_append, HN.out]; simp; omega, by rw [List.length_append, HN.out]; simp; omega, HNX⟩
              case measure => show 16 - (N + 1) < 16 - N; omega
            · obtain rfl : N = 16 := by omega
              have HR2 := Lib.hid (encX_nb (HI.out.2.2.right (by rw [HN.out]; omega))).1
              have HLG : Hid (rightI (nb (ms ++ [z + 1])) = false) := Lib.hid (right_long (by rw [List.length_append, HN.out]; simp))
              have HEN : Hid (encX (nb (ms ++ [z + 1])) = []) := Lib.hid (by unfold encX; rw [if_neg (by rw [HLG.out]; simp)])
              have R4 : Hid True := Lib.hid trivial
              go_wp2_with (first
                | (go_at_call 10; clear R4; refine (right_any wr.heap.size A2 16 c2 (nb ms) _ HI.out.1.reads (by omega)).mono ?_; rintro e w' ⟨rfl, hw'⟩; rw [hw', HR2.out]; clear hw')
                | (go_at_call 10; refine (right_any wA.heap.size _ (16 + 1) _ (nb (ms ++ [z + 1])) _ MA.out.reads (by omega)).mono ?_; rintro e w' ⟨rfl, hw'⟩; rw [hw', HLG.out]; clear hw')
                | (refine wpList_append_keep (by first | rfl | kernel_rfl) (.tmp 118) (.tmp 121) 22 rfl w7.heap.size 3 i0 _ 1 8 Try.underlying22 hi0 hz0 hz1 hz2 rfl (by omega) (.slice A2 16 c2) 16 _ rfl (HI.out.1.same fun g hg => Below.heap_alloc wr _ g (HI.out.1.lt g hg).2) ⟨wr.heap.size, 0, none⟩ 1 1 [.int .i64 _] rfl (by simp [ks_len, nb_len, HN.out]) (World.news_of_block (cs := #[.int .i64 _]) (t := 3) (fr := (0, 0)) (heap_alloc_new wr _)) (by first | exact ks_one _ _ | simp [Value.oneCell']) (by unfold maxLen; omega) (by omega) (by have := HI.out.2.1.size; simp; omega) ?_
                   intro v' wA hmm hran hold
                   have hmA : Mid wA w7.heap.size 3 1 v' (16 + 1) (ks .i64 (nb (ms ++ [z + 1]))) := (by rw [nb_append, ks_append]; rw [show (z : Int) + 1 = ((z + 1 : Nat) : Int) by omega] at hmm; exact hmm)
                   have BA := Lib.hid (HI.out.2.1.grown hran.alloc.grown HI.out.2.1.size fun g hg => (HI.out.1.lt g hg).1)
                   have HO := Lib.hid hold
                   obtain ⟨AA, cA, eA⟩ := hmA.form
                   subst eA
                   have MA := Lib.hid hmA
                   clear hmA
                   clear hmm hran hold)
                | (refine wpList_append_keep (by first | rfl | kernel_rfl) (.tmp 127) (.tmp 130) 22 rfl w7.heap.size 3 i0 _ 1 8 Try.underlying22 hi0 hz0 hz1 hz2 rfl (by omega) (.slice A2 16 c2) 16 _ rfl (HO.out.same fun g hg => Below.heap_alloc wA _ g (HO.out.lt g hg).2) ⟨wA.heap.size, 0, none⟩ 1 1 [.int .i64 _] rfl (by simp [ks_len, nb_len, HN.out]) (World.news_of_block (cs := #[.int .i64 _]) (t := 3) (fr := (0, 0)) (heap_alloc_new wA _)) (by first | exact ks_one _ _ | simp [Value.oneCell']) (by unfold maxLen; omega) (by omega) (by have := BA.out.size; simp; omega) ?_
                   intro v' wB hmm hran hold
                   have hmB : Mid wB w7.heap.size 3 1 v' (16 + 1) (ks .i64 (nb (ms ++ [z + 1]))) := (by rw [nb_append, ks_append]; rw [show (z : Int) + 1 = ((z + 1 : Nat) : Int) by omega] at hmm; exact hmm)
                   have BB := Lib.hid (BA.out.grown hran.alloc.grown BA.out.size fun g hg => (HO.out.lt g hg).1)
                   obtain ⟨AB, cB, eB⟩ := hmB.form
                   subst eB
                   have MB := Lib.hid hmB
                   clear hmB
                   clear hmm hran hold)
                | (go_at_call 13; refine (encode_any _ (16 + 1) _ (nb (ms ++ [z + 1])) _ MB.out.reads (by omega)).mono ?_; rintro e wC hp; obtain ⟨AC, cC, rfl, hbC, hmC, hlC⟩ := hp.at_; rw [HEN.out]; have BC := Lib.hid hbC; clear hbC hmC hlC)
                | (go_at_call 18; refine (runs_any _).mono ?_; rintro e wD ⟨rfl, hbD⟩; have BD := Lib.hid hbD; clear hbD)
                | fail)
              go_ret
              exact ⟨rfl, after (after (after HBW.out (BB.out)) BC.out) BD.out⟩
        | some y =>
          have HDG : Hid ((decP ((encX (nb ls)).take k)).getD [] = y) := Lib.hid (by rw [hdc]; rfl)
          have HDC : Hid (codeO (decP ((encX (nb ls)).take k)) = 0) := Lib.hid (by rw [hdc]; rfl)
          rw [HEX.out] at hdc
          have HPX := Lib.hid (dec_prefix HR.out hdc).1
          have HYL : Hid (y.length ≤ L) := Lib.hid (by rw [← HL.out]; exact (dec_prefix HR.out hdc).2)
          have hyL : ¬ (y.length : Int) > L := by have := HYL.out; omega
          have hyL2 : decide (L < y.length) = false := decide_eq_false (by have := HYL.out; omega)
          have hyL3 : decide (y.length > L) = false := decide_eq_false (by have := HYL.out; omega)
          have hyc2 : y.length ≤ c1 := by have := HYL.out; omega
          have hyc : (y.length : Int) ≤ c1 := by have := HYL.out; omega
          clear hdc hstop
          have R1 : Hid True := Lib.hid trivial
          have R2 : Hid True := Lib.hid trivial
          have HNIL : Hid (rightI [] = false) := Lib.hid (right_no (by simp))
          go_wp2_with (first
            | (go_at_call 13; refine (encode_any (some a1) L c1 (nb ls) _ HRS.out (by omega)).mono ?_; rintro e w4 hp; obtain ⟨A4, c4, rfl, hb4, hm4, hl4⟩ := hp.at_; rw [HE.out] at hm4 hl4 ⊢; have M4 := Lib.hid hm4; have B4 := Lib.hid hb4; have L4 := Lib.hid hl4; have C4 := Lib.hid hm4.cap; clear hm4 hb4 hl4; have hkc : (k : Int) ≤ c4 := (by have := C4.out; omega); have hkc2 : k ≤ c4 := (by have := C4.out; omega))
            | (go_at_call 10; clear R1; refine (right_any w4.heap.size (some a1) L c1 (nb ls) _ (HRS.out.on B4.out) (by omega)).mono ?_; rintro e w' ⟨rfl, hw'⟩; rw [hw', HRI.out]; clear hw')
            | (go_at_call 10; clear R2; refine (right_any w4.heap.size none 0 0 [] _ Reads.none_ (by omega)).mono ?_; rintro e w' ⟨rfl, hw'⟩; rw [hw', HNIL.out]; clear hw')
            | (go_at_call 10; refine (right_any w6.heap.size _ (L + 1) _ (nb (ls ++ [x])) _ M6.out.reads (by omega)).mono ?_; rintro e w' ⟨rfl, hw'⟩; rw [hw', HDUP.out]; clear hw')
            | (refine wpList_append_keep (by first | rfl | kernel_rfl) (.tmp 57) (.tmp 58) 22 rfl w4.heap.size 3 i0 _ 1 8 Try.underlying22 hi0 hz0 hz1 hz2 rfl (by omega) (.slice (some ⟨w4.heap.size, 0, none⟩) 0 0) 0 _ rfl (Mid.empty (Nat.le_refl _)) a1 L c1 (ks .i64 (nb ls)) rfl (by simp [ks_len, nb_len, HL.out]) (((HRS.out.on B4.out).alloc (Nat.le_refl _) _).cells) (by first | exact ks_one _ _ | simp [Value.oneCell']) (by unfold maxLen; omega) (by omega) (by simp) ?_
               intro v' w5 hmm hran hold
               have hm5 : Mid w5 w4.heap.size 3 1 v' L (ks .i64 (nb ls)) := (by rw [Nat.zero_add, List.nil_append] at hmm; exact hmm)
               have B5 := Lib.hid (below_fresh hran)
               obtain ⟨A5, c5, e5⟩ := hm5.form
               subst e5
               have M5 := Lib.hid hm5
               clear hm5
               clear hmm hran hold)
            | (refine wpList_append_keep (by first | rfl | kernel_rfl) (.tmp 59) (.tmp 61) 22 rfl w4.heap.size 3 i0 _ 1 8 Try.underlying22 hi0 hz0 hz1 hz2 rfl (by omega) (.slice A5 L c5) L _ rfl (M5.out.same fun g hg => Below.heap_alloc w5 _ g (M5.out.lt g hg).2) ⟨w5.heap.size, 0, none⟩ 1 1 [.int .i64 _] rfl (by simp [ks_len, nb_len, HL.out]) (World.news_of_block (cs := #[.int .i64 _]) (t := 3) (fr := (0, 0)) (heap_alloc_new w5 _)) (by first | exact ks_one _ _ | simp [Value.oneCell']) (by unfold maxLen; omega) (by omega) (by have := B5.out.size; simp; omega) ?_
               intro v' w6 hmm hran hold
               have hm6 : Mid w6 w4.heap.size 3 1 v' (L + 1) (ks .i64 (nb (ls ++ [x]))) := (by rw [nb_append, ks_append]; exact hmm)
               have B6 := Lib.hid (B5.out.grown hran.alloc.grown B5.out.size fun g hg => (M5.out.lt g hg).1)
               obtain ⟨A6, c6, e6⟩ := hm6.form
               subst e6
               have M6 := Lib.hid hm6
               clear hm6
               clear hmm hran hold)
            | (go_at_call 19; refine (within_any _ E (by omega) (by have := L4.out; omega) _).mono ?_; rintro e w' ⟨rfl, hw'⟩; rw [HK.out, ← hw']; clear hw')
            | (go_at_call 8; refine (decode_any A4 k c4 ((encX (nb ls)).take k) w6 (by rw [nb_take]; exact (M4.out.reads.on B6.out).take (by omega)) (fun b h => encX_byte (nb ls) b (List.mem_of_mem_take h)) (by have := C4.out; omega) (by have := L4.out; omega)).mono ?_; rintro e w7 hp; obtain ⟨A7, c7, rfl, hb7, hm7⟩ := hp.at_; rw [HDC.out]; rw [HDG.out] at hm7 ⊢; have M7 := Lib.hid hm7; have B7 := Lib.hid hb7; clear hm7 hb7)
            | (go_at_call 15; refine (same_i w7.heap.size _ _ _ _ _ _ _ _ _ M7.out.reads ((HRS.out.on (after (after B4.out B6.out) B7.out)).take (show y.length ≤ L from by have := HYL.out; omega)) (by have := HYL.out; omega) (by have := HYL.out; omega)).mono ?_; rintro e w8 ⟨rfl, hb8⟩; rw [← HPX.out, eqB_self]; have B8 := Lib.hid hb8; clear hb8)
            | (refine wpList_append_keep (by first | rfl | kernel_rfl) (.tmp 103) (.tmp 104) 22 rfl w8.heap.size 3 i0 _ 1 8 Try.underlying22 hi0 hz0 hz1 hz2 rfl (by omega) (.slice (some ⟨w8.heap.size, 0, none⟩) 0 0) 0 _ rfl (Mid.empty (Nat.le_refl _)) a1 L c1 (ks .i64 (nb ls)) rfl (by simp [ks_len, nb_len, HL.out]) (((HRS.out.on (after (after (after B4.out B6.out) B7.out) B8.out)).alloc (Nat.le_refl _) _).cells) (by first | exact ks_one _ _ | simp [Value.oneCell']) (by unfold maxLen; omega) (by omega) (by simp) ?_
               intro v' w9 hmm hran hold
               have hm9 : Mid w9 w8.heap.size 3 1 v' L (ks .i64 (nb ls)) := (by rw [Nat.zero_add, List.nil_append] at hmm; exact hmm)
               have B9 := Lib.hid (below_fresh hran)
               have M9 := Lib.hid hm9
               clear hm9
               clear hmm hran hold)
            | fail)
          have HBW : Hid (Below w.heap.size w w8) := Lib.hid (after (after (after (after HB0.out B4.out) B6.out) B7.out) B8.out)
          have HL9 : Hid (Mid w9 w8.heap.size 3 1 v' ls.length (ks .i64 (nb ls)) ∧ Below w8.heap.size w8 w9 ∧ Up ls x) := Lib.hid ⟨by rw [HL.out]; exact M9.out, B9.out, HUP.out⟩
          go_loopw [7, 14] (fun a b wr => ∃ (v : Value) (ms : List Nat) (y : Nat), a = .int .i64 y ∧ b = v ∧ y ≤ 1600000 + ms.length ∧ ms.length ≤ 16 ∧ Hid (Mid wr w8.heap.size 3 1 v ms.length (ks .i64 (nb ms)) ∧ Below w8.heap.size w8 wr ∧ Up ms y)) (fun _ b _ => 16 - lenV b)
          case atStart => exact ⟨_, ls, x, rfl, rfl, by omega, by rw [HL.out]; omega, HL9⟩
          case round =>
            clear HL9
            obtain ⟨v, ms, z, rfl, hv, hz9, hm16, HI⟩ := hrel
            subst hv
            obtain ⟨A2, c2, hv⟩ := HI.out.1.form
            subst hv
            generalize hN : ms.length = N at *
            have HN := Lib.hid hN
            clear hN
            have F3 : Hid True := Lib.hid trivial
            by_cases hlt : N < 16
            · have hlt' : (N : Int) < 16 := by omega
              go_wp2_with (first
                | (refine wpList_append_keep (by first | rfl | kernel_rfl) (.tmp 111) (.tmp 113) 22 rfl w8.heap.size 3 i0 _ 1 8 Try.underlying22 hi0 hz0 hz1 hz2 rfl (by omega) (.slice A2 N c2) N _ rfl (HI.out.1.same fun g hg => Below.heap_alloc wr _ g (HI.out.1.lt g hg).2) ⟨wr.heap.size, 0, none⟩ 1 1 [.int .i64 _] rfl (by simp [ks_len, nb_len, HN.out]) (World.news_of_block (cs := #[.int .i64 _]) (t := 3) (fr := (0, 0)) (heap_alloc_new wr _)) (by first | exact ks_one _ _ | simp [Value.oneCell']) (by unfold maxLen; omega) (by omega) (by have := HI.out.2.1.size; simp; omega) ?_
                   intro v' w3 hmm hran hold
                   obtain ⟨A3, c3, rfl⟩ := hmm.form
                   have HMM := Lib.hid hmm
                   have HRN := Lib.hid hran
                   clear hmm hran hold)
                | fail)
              have HNX : Hid (Mid w3 w8.heap.size 3 1 (.slice A3 (N + 1) c3) (ms ++ [z + 1]).length (ks .i64 (nb (ms ++ [z + 1]))) ∧ Below w8.heap.size w8 w3 ∧ Up (ms ++ [z + 1]) (z + 1)) := Lib.hid ⟨by
                  have hmm := HMM.out
                  rw [List.length_append, HN.out, nb_append, ks_append]
                  rw [show (z : Int) + 1 = ((z + 1 : Nat) : Int) by omega] at hmm
                  exact hmm, HI.out.2.1.grown (HRN.out.alloc).grown HI.out.2.1.size (fun g hg => (HI.out.1.lt g hg).1), HI.out.2.2.snoc (by omega) (by omega)⟩
              clear HMM HRN
              go_roundw
              case rel => exact ⟨_, ms ++ [z + 1], z + 1, by go_num, rfl, by rw [List.length_append, HN.out]; simp; omega, by rw [List.length_append, HN.out]; simp; omega, HNX⟩
              case measure => show 16 - (N + 1) < 16 - N; omega
            · obtain rfl : N = 16 := by omega
              have HR2 := Lib.hid (encX_nb (HI.out.2.2.right (by rw [HN.out]; omega))).1
              have HLG : Hid (rightI (nb (ms ++ [z + 1])) = false) := Lib.hid (right_long (by rw [List.length_append, HN.out]; simp))
              have HEN : Hid (encX (nb (ms ++ [z + 1])) = []) := Lib.hid (by unfold encX; rw [if_neg (by rw [HLG.out]; simp)])
              have R4 : Hid True := Lib.hid trivial
              go_wp2_with (first
                | (go_at_call 10; clear R4; refine (right_any wr.heap.size A2 16 c2 (nb ms) _ HI.out.1.reads (by omega)).mono ?_; rintro e w' ⟨rfl, hw'⟩; rw [hw', HR2.out]; clear hw')
                | (go_at_call 10; refine (right_any wA.heap.size _ (16 + 1) _ (nb (ms ++ [z + 1])) _ MA.out.reads (by omega)).mono ?_; rintro e w' ⟨rfl, hw'⟩; rw [hw', HLG.out]; clear hw')
                | (refine wpList_append_keep (by first | rfl | kernel_rfl) (.tmp 118) (.tmp 121) 22 rfl w8.heap.size 3 i0 _ 1 8 Try.underlying22 hi0 hz0 hz1 hz2 rfl (by omega) (.slice A2 16 c2) 16 _ rfl (HI.out.1.same fun g hg => Below.heap_alloc wr _ g (HI.out.1.lt g hg).2) ⟨wr.heap.size, 0, none⟩ 1 1 [.int .i64 _] rfl (by simp [ks_len, nb_len, HN.out]) (World.news_of_block (cs := #[.int .i64 _]) (t := 3) (fr := (0, 0)) (heap_alloc_new wr _)) (by first | exact ks_one _ _ | simp [Value.oneCell']) (by unfold maxLen; omega) (by omega) (by have := HI.out.2.1.size; simp; omega) ?_
                   intro v' wA hmm hran hold
                   have hmA : Mid wA w8.heap.size 3 1 v' (16 + 1) (ks .i64 (nb (ms ++ [z + 1]))) := (by rw [nb_append, ks_append]; rw [show (z : Int) + 1 = ((z + 1 : Nat) : Int) by omega] at hmm; exact hmm)
                   have BA := Lib.hid (HI.out.2.1.grown hran.alloc.grown HI.out.2.1.size fun g hg => (HI.out.1.lt g hg).1)
                   have HO := Lib.hid hold
                   obtain ⟨AA, cA, eA⟩ := hmA.form
                   subst eA
                   have MA := Lib.hid hmA
                   clear hmA
                   clear hmm hran hold)
                | (refine wpList_append_keep (by first | rfl | kernel_rfl) (.tmp 127) (.tmp 130) 22 rfl w8.heap.size 3 i0 _ 1 8 Try.underlying22 hi0 hz0 hz1 hz2 rfl (by omega) (.slice A2 16 c2) 16 _ rfl (HO.out.same fun g hg => Below.heap_alloc wA _ g (HO.out.lt g hg).2) ⟨wA.heap.size, 0, none⟩ 1 1 [.int .i64 _] rfl (by simp [ks_len, nb_len, HN.out]) (World.news_of_block (cs := #[.int .i64 _]) (t := 3) (fr := (0, 0)) (heap_alloc_new wA _)) (by first | exact ks_one _ _ | simp [Value.oneCell']) (by unfold maxLen; omega) (by omega) (by have := BA.out.size; simp; omega) ?_
                   intro v' wB hmm hran hold
                   have hmB : Mid wB w8.heap.size 3 1 v' (16 + 1) (ks .i64 (nb (ms ++ [z + 1]))) := (by rw [nb_append, ks_append]; rw [show (z : Int) + 1 = ((z + 1 : Nat) : Int) by omega] at hmm; exact hmm)
                   have BB := Lib.hid (BA.out.grown hran.alloc.grown BA.out.size fun g hg => (HO.out.lt g hg).1)
                   obtain ⟨AB, cB, eB⟩ := hmB.form
                   subst eB
                   have MB := Lib.hid hmB
                   clear hmB
                   clear hmm hran hold)
                | (go_at_call 13; refine (encode_any _ (16 + 1) _ (nb (ms ++ [z + 1])) _ MB.out.reads (by omega)).mono ?_; rintro e wC hp; obtain ⟨AC, cC, rfl, hbC, hmC, hlC⟩ := hp.at_; rw [HEN.out]; have BC := Lib.hid hbC; clear hbC hmC hlC)
                | (go_at_call 18; refine (runs_any _).mono ?_; rintro e wD ⟨rfl, hbD⟩; have BD := Lib.hid hbD; clear hbD)
                | fail)
              go_ret
              exact ⟨rfl, after (after (after HBW.out (BB.out)) BC.out) BD.out⟩
theorem bounds_arg (first cut : Int) (A : Option Addr) (n c : Nat) (xs : List Int) (w : World) (hx : Reads w w.heap.size 1 A n (xs.map (Value.int .i64))) (hn : n ≤ c) (hc : c ≤ maxLen) :
    Calls Try.prog 5 #[.int .i64 first, .slice A n c, .int .i64 cut] w fun e w' => e = .returned (.bool true) ∧ Below w.heap.size w w' := by
  unfold maxLen at hc
  exact bounds_any first cut A n c xs w hx (by omega)
end Go.Proofs.Ytoinanbpiemfoaa
