/-
  PostingOf; conditions: lengths.
-/
import Derived.Test.YtokjeglhmmijfaaPsl
namespace Go.Proofs.Ytokjeglhmmijfaa
open Go.RowKit Go.WideShapes Go.ChangeShapes
set_option linter.all false
set_option maxRecDepth 100000 in
set_option maxHeartbeats 3200000 in
theorem ofs_any (w : World) (A : Option Addr) (n c : Nat) (x : List Int) (r : Reads w w.heap.size 1 A n (x.map (Value.int .i64))) (hc : n ≤ c) (hm : c ≤ maxLen) :
    Calls Try.prog 4 #[.slice A n c] w fun e w' => e = .returned (.bool true) ∧ Below w.heap.size w w' := by
  have hsk : SK .i64 w w.heap.size A n c x := SK.of r hc hm
  have hc9 : c ≤ 9223372036854775807 := by unfold maxLen at hm; omega
  have HR := Lib.hid r
  obtain ⟨N, hN⟩ : ∃ N, N = min n 100 := ⟨_, rfl⟩
  obtain ⟨l, hl⟩ : ∃ l, l = x.take N := ⟨_, rfl⟩
  have HS : Hid (SK .i64 w w.heap.size A N c l) := Lib.hid (by rw [hl]; exact hsk.take (by omega))
  have HLN : Hid (l.length = N) := Lib.hid HS.out.len
  have hNn : N ≤ n := by omega
  have hN9 : N ≤ 100 := by omega
  have hcs : n > 100 ∧ N = 100 ∨ ¬ n > 100 ∧ N = n := by omega
  clear r hm hsk hl hN
  go_enter Try.func4, Try.ntmps4
  rcases hcs with ⟨h1, h2⟩ | ⟨h1, h2⟩
  rotate_left
  all_goals have HH2 := Lib.hid h2
  all_goals clear h2
  all_goals go_upto_region 3 with (fail)
  rw [show Value.slice A n c = Value.slice A N c from by rw [HH2.out]]
  rotate_left
  rw [show Value.slice A 100 c = Value.slice A N c from by rw [HH2.out]]
  all_goals
    clear HH2 h1
    generalize decide (100 < (n : Int)) = b12
    go_wp2
    go_loopw [3, 4, 5, 17] (fun b _ _ i wr => ∃ (k : Nat) (rb : Bool), k ≤ N ∧ b = .bool rb ∧ i = .int .i64 k ∧ Hid (rb = riB l k) ∧ wr = w) (fun _ _ _ i _ => N - (intOf i).toNat)
    case atStart => exact ⟨0, true, Nat.zero_le _, rfl, rfl, Lib.hid rfl, rfl⟩
    case round =>
      obtain ⟨k, rb, hk, rfl, rfl, HRB, rfl⟩ := hrel
      have k0 : (0 : Int) ≤ k := by omega
      by_cases hkN : k < N
      · have k1 : (k : Int) < N := by omega
        obtain ⟨ad, rfl, g0⟩ := HS.out.2.2.2.kat hkN
        have HK : Hid (riB l (k + 1) = (rb && decide (okI l k))) := Lib.hid (by rw [HRB.out]; rfl)
        cases rb with
        | false =>
          obtain ⟨y, hy⟩ : ∃ y, y = l.getD k 0 := ⟨_, rfl⟩
          rw [← hy] at g0
          clear hy
          go_wp2
          go_roundw
          case rel => exact ⟨k + 1, false, by omega, rfl, by go_num, Lib.hid (by rw [HK.out]; rfl), by trivial⟩
          case measure => simp only [intOf]; omega
        | true =>
          by_cases q0 : 0 ≤ l.getD k 0
          · by_cases q1 : l.getD k 0 ≤ 1073741824
            · cases k with
              | zero =>
                have HK2 : Hid (true = riB l 1) := Lib.hid (by rw [HK.out, decide_eq_true ⟨q0, q1, fun h => by omega⟩]; rfl)
                obtain ⟨y, hy⟩ : ∃ y, y = l.getD 0 0 := ⟨_, rfl⟩
                rw [← hy] at g0 q0 q1
                have g1 : wr.cell? ad = some (.int .i64 y) := by simpa [Addr.add] using g0
                have q0' : y ≥ 0 := q0
                clear g0 hy
                go_wp2
                go_roundw
                case rel => exact ⟨1, true, by omega, rfl, by first | rfl | go_num, HK2, by trivial⟩
                case measure => simp only [intOf]; omega
              | succ m =>
                obtain ⟨ad', e', g2⟩ := HS.out.2.2.2.kat (show m < N by omega)
                injection e' with e'
                subst e'
                have HK2 : Hid (decide (l.getD (m + 1) 0 > l.getD m 0) = riB l (m + 1 + 1)) := Lib.hid (by
                  rw [HK.out, Bool.true_and]
                  simp only [decide_eq_decide]
                  exact ⟨fun h => ⟨q0, q1, fun _ => h⟩, fun h => h.2.2 (by omega)⟩)
                obtain ⟨y, hy⟩ : ∃ y, y = l.getD (m + 1) 0 := ⟨_, rfl⟩
                obtain ⟨z, hz⟩ : ∃ z, z = l.getD m 0 := ⟨_, rfl⟩
                rw [← hy] at g0 q0 q1 HK2
                rw [← hz] at g2 HK2
                have g1 : wr.cell? ⟨ad.block, ad.off + (m + 1), none⟩ = some (.int .i64 y) := by rw [← g0]; unfold Addr.add; rw [if_neg (by omega)]
                have q0' : y ≥ 0 := q0
                have hm0 : (0 : Int) ≤ m := by omega
                have hmm : (m : Int) < N := by omega
                have hm1 : (m : Int) + 1 < N := by omega
                have hm2 : ¬ (m : Int) + 1 = 0 := by omega
                clear hy hz HK
                by_cases hzy : y > z
                · rw [decide_eq_true hzy] at HK2
                  go_wp2
                  go_roundw
                  case rel => exact ⟨m + 1 + 1, true, by omega, rfl, by first | rfl | go_num, HK2, by trivial⟩
                  case measure => simp only [intOf]; omega
                · rw [decide_eq_false hzy] at HK2
                  go_wp2
                  go_roundw
                  case rel => exact ⟨m + 1 + 1, false, by omega, rfl, by first | rfl | go_num, HK2, by trivial⟩
                  case measure => simp only [intOf]; omega
            · have HK2 : Hid (false = riB l (k + 1)) := Lib.hid (by rw [HK.out, decide_eq_false (fun h => q1 h.2.1)]; rfl)
              obtain ⟨y, hy⟩ : ∃ y, y = l.getD k 0 := ⟨_, rfl⟩
              rw [← hy] at g0 q0 q1
              have q0' : y ≥ 0 := q0
              clear hy
              go_wp2
              go_roundw
              case rel => exact ⟨k + 1, false, by omega, rfl, by go_num, HK2, by trivial⟩
              case measure => simp only [intOf]; omega
          · have HK2 : Hid (false = riB l (k + 1)) := Lib.hid (by rw [HK.out, decide_eq_false (fun h => q0 h.1)]; rfl)
            obtain ⟨y, hy⟩ : ∃ y, y = l.getD k 0 := ⟨_, rfl⟩
            rw [← hy] at g0 q0
            have q0' : ¬ y ≥ 0 := q0
            clear hy
            go_wp2
            go_roundw
            case rel => exact ⟨k + 1, false, by omega, rfl, by go_num, HK2, by trivial⟩
            case measure => simp only [intOf]; omega
      · obtain rfl : k = N := by omega
        cases rb with
        | false =>
          have HC : Hid (Calls Try.prog 10 #[.slice A k c] wr (OfP [] 8 F0 wr)) := Lib.hid (by
            obtain ⟨K, h1, h2, h3⟩ := riB_false HRB.out.symm
            exact of_no F0 wr A k c l HS.out (by omega) K h1 h2 h3)
          go_upto_region 10 with (first
            | (go_at_call 10; refine HC.out.mono ?_; rintro e w2 ⟨A2, c2, rfl, hb2, hp2⟩
               have HB2 := Lib.hid hb2
               have HP2 : Hid (PLF w2 F0 A2 0 c2 []) := Lib.hid hp2
               clear hb2 hp2)
            | fail)
          obtain ⟨W2, hW2⟩ : ∃ W2, W2 = w2.alloc (Obj.cells #[Value.slice A2 0 c2] 24) := ⟨_, rfl⟩
          have HX : Hid (PBox A2 0 c2 w2 W2) := Lib.hid (by rw [hW2]; exact PBox.new _ _ _ _)
          have p0 := HX.out.cell
          rw [← hW2]
          clear hW2
          go_wp2_with (first
            | (go_at_call 15; refine (len_any A2 0 c2 [] _ (HP2.out.on HX.out.bel).pl RL.nil (by omega)).mono ?_; rintro e w3 ⟨rfl, hb3⟩; have HX := Lib.hid (HX.out.on hb3); clear hb3)
            | (go_at_call 3; refine (runs_any _).mono ?_; rintro e w8 ⟨rfl, hb8⟩; have HB8 := Lib.hid hb8; clear hb8)
            | fail)
          go_ret
          exact ⟨rfl, HB2.out.trans ((HX.out.on HB8.out).bel.mono HB2.out.size)⟩
        | true =>
          obtain ⟨l', hl', ha⟩ := okI_all (l := l) (fun i hi => riB_true HRB.out.symm i (by rw [← HLN.out]; exact hi))
          have hlen : l'.length = k := by have := HLN.out; rw [hl', nb_len] at this; exact this
          have HS2 : Hid (SK .i64 wr wr.heap.size A k c (nb l')) := Lib.hid (by rw [← hl']; exact HS.out)
          have HC : Hid (Calls Try.prog 10 #[.slice A k c] wr (OfP (chunkL ((k + 15) / 16) l') 0 F0 wr)) := Lib.hid (of_yes F0 wr (F0_lt _) A k c l' HS2.out (by omega) ha)
          have hfl : (chunkL ((k + 15) / 16) l').flatten = l' := chunk_flat _ _ (by omega)
          have hRL : RL (chunkL ((k + 15) / 16) l') := chunk_right (by omega) ha
          have hLL := chunk_size ((k + 15) / 16) l' (by omega)
          have hat := fun i => chunk_at ((k + 15) / 16) l' i (by omega)
          rw [hlen] at hLL hat
          generalize chunkL ((k + 15) / 16) l' = L at *
          obtain ⟨n3, hn3⟩ : ∃ n3, n3 = L.length := ⟨_, rfl⟩
          rw [← hn3] at hLL hat
          have hn9 : n3 ≤ 100 := by omega
          have HN3 := Lib.hid hn3
          have HFL := Lib.hid hfl
          have HRL := Lib.hid hRL
          have HAT := Lib.hid hat
          have HLE := Lib.hid hlen
          have HLL := Lib.hid hLL
          clear hl' ha hlen hfl hRL hLL hat hn3 HRB HS HLN
          go_upto_region 10 with (first
            | (go_at_call 10; refine HC.out.mono ?_; rintro e w2 ⟨A2, c2, rfl, hb2, hp2⟩
               rw [← HN3.out] at hp2 ⊢
               have HB2 := Lib.hid hb2
               have HP2 : Hid (PLF w2 F0 A2 n3 c2 L) := Lib.hid hp2
               clear hb2 hp2)
            | fail)
          obtain ⟨W2, hW2⟩ : ∃ W2, W2 = w2.alloc (Obj.cells #[Value.slice A2 n3 c2] 24) := ⟨_, rfl⟩
          have HX : Hid (PBox A2 n3 c2 w2 W2) := Lib.hid (by rw [hW2]; exact PBox.new _ _ _ _)
          have p0 := HX.out.cell
          rw [← hW2]
          clear hW2
          go_upto_region 15 with (first
            | (go_at_call 16; refine (blocks_any A2 n3 c2 L W2 (HP2.out.on HX.out.bel).pl HRL.out (by omega)).mono ?_; rintro e w3 ⟨A3, c3, own, rfl, hb3, ho3, hm3⟩
               rw [← HN3.out] at ho3 ⊢
               have HX := Lib.hid (HX.out.on hb3)
               have HON : Hid (own.length = n3) := Lib.hid (by have := congrArg List.length hm3; rw [List.length_map, List.length_map, ← HN3.out] at this; exact this)
               have HO2 := Lib.hid (ho3.lk HON.out)
               have HM3 := Lib.hid hm3
               have p0 := HX.out.cell
               clear hb3 ho3 hm3)
            | fail)
          have HE2 : Hid (∀ i, i < n3 → (own.getD i dA).l = nb (L.getD i [])) := Lib.hid (fun i hi => HO2.out.el HM3.out i hi)
          go_wp2
          go_loopw [9, 74] (fun _ i wr' => ∃ j : Nat, i = .int .i64 j ∧ j ≤ n3 ∧ wr' = w3) (fun _ i _ => n3 - (intOf i).toNat)
          case atStart => exact ⟨0, rfl, Nat.zero_le _, rfl⟩
          case round =>
            obtain ⟨j, rfl, hj, rfl⟩ := hrel
            by_cases hlt2 : j < n3
            · obtain ⟨ad, e1, g1, s1⟩ := HO2.out.at_ hlt2
              subst e1
              rw [HE2.out j hlt2] at s1
              obtain ⟨e1, he1⟩ : ∃ e1, e1 = own.getD j dA := ⟨_, rfl⟩
              rw [← he1] at g1 s1
              obtain ⟨B1, m1, d1, l1⟩ := e1
              have hl1 : (nb (L.getD j [])).length = m1 := s1.len
              rw [nb_len, HAT.out j hlt2] at hl1
              have j0 : (0 : Int) ≤ j := by omega
              have j9 : (j : Int) ≤ 100 := by omega
              have hL16 : m1 ≤ 16 := by omega
              have k9 : (k : Int) ≤ 100 := by omega
              have hmn : ((m1 : Int) != min 16 ((k : Int) - (j : Int) * 16)) = false := by
                have h1 := HLL.out
                have : (m1 : Int) = min 16 ((k : Int) - (j : Int) * 16) := by omega
                rw [this]; exact bne_self_eq_false _
              clear hl1 he1 s1
              go_wp2
              go_roundw
              case rel => exact ⟨j + 1, by go_num, by omega, by trivial⟩
              case measure => simp only [intOf]; omega
            · obtain rfl : j = n3 := by omega
              have hj : ((j : Int) = ((k : Int) + 16 - 1) / 16) = True := eq_true (by have h1 := HLL.out; omega)
              have hjb : ((j : Int) == ((k : Int) + 16 - 1) / 16) = true := by rw [beq_iff_eq, hj]; trivial
              have k9 : (k : Int) ≤ 100 := by omega
              go_wp2_with (first
                | (go_at_call 18; refine (ids_any A2 j c2 L _ (HP2.out.on HX.out.bel).pl HRL.out (by omega)).mono ?_; rw [HFL.out]; rintro e w4 ⟨A4, c4, rfl, hb4, hm4⟩; rw [HLE.out] at hm4 ⊢; have HX := Lib.hid (HX.out.on hb4); have HM4 := Lib.hid hm4; clear hb4 hm4)
                | (go_at_call 17; refine (same_i w4.heap.size A4 A k k c4 c (nb l') (nb l') _ HM4.out.sk.2.2.2 ((HS2.out.on (HB2.out.trans (HX.out.bel.mono HB2.out.size))).2.2.2) (by omega) (by omega)).mono ?_; rintro e w5 ⟨rfl, hb5⟩; rw [eqB_self]; have HX := Lib.hid (HX.out.on hb5); clear hb5)
                | (go_at_call 3; refine (runs_any _).mono ?_; rintro e w8 ⟨rfl, hb8⟩; have HB8 := Lib.hid hb8; clear hb8)
                | fail)
              go_ret
              exact ⟨rfl, HB2.out.trans ((HX.out.on HB8.out).bel.mono HB2.out.size)⟩
end Go.Proofs.Ytokjeglhmmijfaa
