/-
  The law EpochWaits at any calls: the walk; no condition.
-/
import Derived.Test.YtafedpphecfgnaaEx6
namespace Go.Proofs.Ytafedpphecfgnaa
open Go.RowKit Go.WideShapes Go.ChangeShapes
set_option linter.all false
theorem add_one_addr (a : Addr) : a.add 1 = ⟨a.block, a.off + 1, none⟩ := rfl
/-- What the law keeps is what waits. -/
structure Rl (X : Nat → List (Int × Int)) (Y : Nat → List Int) (n t : Nat) : Prop where
  f : ∀ c, c < 2 → Y c = (X c).map Prod.fst
  s : ∀ c, c < 2 → Y (2 + c) = (X c).map Prod.snd
  ln : ∀ c, c < 2 → (X c).length ≤ n
  bd : ∀ c, c < 2 → ∀ p ∈ X c, 0 ≤ p.2 ∧ p.2 ≤ t
theorem upd_at {α : Type} (f : Nat → α) (j : Nat) (a : α) : upd f j a j = a := if_pos rfl
theorem upd_ne {α : Type} (f : Nat → α) (j i : Nat) (a : α) (h : i ≠ j) : upd f j a i = f i := if_neg h
section
variable {X : Nat → List (Int × Int)} {Y : Nat → List Int} {n t c : Nat}
theorem Rl.later (h : Rl X Y n t) : Rl X Y n (t + 1) := ⟨h.f, h.s, h.ln, fun c hc p hp => by have := h.bd c hc p hp; omega⟩
theorem Rl.put (h : Rl X Y n t) (hc : c < 2) (hl : (X c).length < n) (r : Int) : Rl (upd X c (X c ++ [(r, (t : Int))])) (upd (upd Y c (Y c ++ [r])) (2 + c) (Y (2 + c) ++ [(t : Int)])) n t := by
  refine ⟨fun d hd => ?_, fun d hd => ?_, fun d hd => ?_, fun d hd p hp => ?_⟩
  · rw [upd_ne _ _ _ _ (by omega)]
    by_cases e : d = c
    · subst e; rw [upd_at, upd_at, h.f d hd]; simp
    · rw [upd_ne _ _ _ _ e, upd_ne _ _ _ _ e]; exact h.f d hd
  · by_cases e : d = c
    · subst e; rw [upd_at, upd_at, h.s d hd]; simp
    · rw [upd_ne _ _ _ _ (by omega), upd_ne _ _ _ _ (by omega), upd_ne _ _ _ _ e]; exact h.s d hd
  · by_cases e : d = c
    · subst e; rw [upd_at]; simp; omega
    · rw [upd_ne _ _ _ _ e]; exact h.ln d hd
  · by_cases e : d = c
    · subst e; rw [upd_at] at hp
      rcases List.mem_append.1 hp with hp | hp
      · exact h.bd d hd p hp
      · simp only [List.mem_singleton] at hp; subst hp; exact ⟨by simp, by simp⟩
    · rw [upd_ne _ _ _ _ e] at hp; exact h.bd d hd p hp
theorem Rl.cut (h : Rl X Y n t) (hc : c < 2) {p : Int × Int} {xs : List (Int × Int)} (hx : X c = p :: xs) : Rl (upd X c xs) (upd (upd Y c ((Y c).drop 1)) (2 + c) ((Y (2 + c)).drop 1)) n t := by
  refine ⟨fun d hd => ?_, fun d hd => ?_, fun d hd => ?_, fun d hd p hp => ?_⟩
  · rw [upd_ne _ _ _ _ (by omega)]
    by_cases e : d = c
    · subst e; rw [upd_at, upd_at, h.f d hd, hx]; simp
    · rw [upd_ne _ _ _ _ e, upd_ne _ _ _ _ e]; exact h.f d hd
  · by_cases e : d = c
    · subst e; rw [upd_at, upd_at, h.s d hd, hx]; simp
    · rw [upd_ne _ _ _ _ (by omega), upd_ne _ _ _ _ (by omega), upd_ne _ _ _ _ e]; exact h.s d hd
  · by_cases e : d = c
    · subst e; rw [upd_at]; have := h.ln d hd; rw [hx] at this; simp at this; omega
    · rw [upd_ne _ _ _ _ e]; exact h.ln d hd
  · by_cases e : d = c
    · subst e; rw [upd_at] at hp; exact h.bd d hd p (by rw [hx]; exact List.mem_cons_of_mem _ hp)
    · rw [upd_ne _ _ _ _ e] at hp; exact h.bd d hd p hp
end
theorem limbo0 {N E R : Nat} {lim now : Int} {V : Nat → Value} {X : Nat → List (Int × Int)} {w : World} (h : Es N E R 2 lim now V X w) : Calls Try.prog 13 #[.pointer (some ⟨E, 0, none⟩), .int .i64 0] w fun e w' => e = .returned (.int .i64 (X 0).length) ∧ w' = w := limbo_in h 0 (by omega)
theorem limbo1 {N E R : Nat} {lim now : Int} {V : Nat → Value} {X : Nat → List (Int × Int)} {w : World} (h : Es N E R 2 lim now V X w) : Calls Try.prog 13 #[.pointer (some ⟨E, 0, none⟩), .int .i64 1] w fun e w' => e = .returned (.int .i64 (X 1).length) ∧ w' = w := limbo_in h 1 (by omega)
theorem info3' : (Try.prog.info? 3).map (fun i => (i.zero, i.size, i.bytes)) = some (some (.int .i64 0), 1, 8) := by kernel_rfl
theorem Wt.cells {W : World} {E R S B1 B2 : Nat} {lim now : Int} {V : Nat → Value} {X : Nat → List (Int × Int)} {C U : Nat → Value} {Y : Nat → List Int} {w : World} (h : Wt W E R S B1 B2 lim now V X C U Y w) {c : Nat} (hc : c < 2) :
    w.cell? ⟨B1, c, none⟩ = some (C c) ∧ w.cell? ⟨B2, c, none⟩ = some (C (2 + c)) ∧ w.frozen? ⟨B1, c, none⟩ = false ∧ w.frozen? ⟨B2, c, none⟩ = false := by
  have e1 : Tat B1 B2 c = ⟨B1, c, none⟩ := by unfold Tat; rw [if_pos hc]
  have e2 : Tat B1 B2 (2 + c) = ⟨B2, c, none⟩ := by unfold Tat; rw [if_neg (by omega)]; congr 1; omega
  rw [← e1, ← e2]
  exact ⟨h.tb.cv c (by omega), h.tb.cv (2 + c) (by omega), h.tb.fv c (by omega), h.tb.fv (2 + c) (by omega)⟩
theorem Wt.store1 {W : World} {E R S B1 B2 : Nat} {lim now : Int} {V : Nat → Value} {X : Nat → List (Int × Int)} {C U : Nat → Value} {Y : Nat → List Int} {w : World} (h : Wt W E R S B1 B2 lim now V X C U Y w) {c : Nat} (hc : c < 2) (v : Value) : Wt W E R S B1 B2 lim now V X (upd C c v) U Y (w.setCell ⟨B1, c, none⟩ v) := by
  have e1 : Tat B1 B2 c = ⟨B1, c, none⟩ := by unfold Tat; rw [if_pos hc]
  rw [← e1]; exact h.store c (by omega) v
theorem Wt.store2 {W : World} {E R S B1 B2 : Nat} {lim now : Int} {V : Nat → Value} {X : Nat → List (Int × Int)} {C U : Nat → Value} {Y : Nat → List Int} {w : World} (h : Wt W E R S B1 B2 lim now V X C U Y w) {c : Nat} (hc : c < 2) (v : Value) : Wt W E R S B1 B2 lim now V X (upd C (2 + c) v) U Y (w.setCell ⟨B2, c, none⟩ v) := by
  have e2 : Tat B1 B2 (2 + c) = ⟨B2, c, none⟩ := by unfold Tat; rw [if_neg (by omega)]; congr 1; omega
  rw [← e2]; exact h.store (2 + c) (by omega) v
theorem Mid.head {w : World} {S : Nat} {v : Value} {y : Int} {ys : List Int} (h : Mid w S 3 1 v (y :: ys).length (nums (y :: ys))) : ∃ g off cap, v = .slice (some ⟨g, off, none⟩) (ys.length + 1) cap ∧ ys.length + 1 ≤ cap := by
  rcases h.2 with ⟨_, h0⟩ | ⟨g, off, cap, cur, h', _, _, hn, _⟩
  · simp at h0
  · exact ⟨g, off, cap, h', by simpa using hn⟩
theorem Mid.head_cell {w : World} {S g off n cap : Nat} {y : Int} {ys : List Int} (h : Mid w S 3 1 (.slice (some ⟨g, off, none⟩) n cap) n (nums (y :: ys))) : w.cell? ⟨g, off, none⟩ = some (.int .i64 y) := by
  have := h.cells 0 _ rfl
  rwa [Nat.add_zero] at this
theorem Wt.cutrow {W : World} {E R S B1 B2 : Nat} {lim now : Int} {V : Nat → Value} {X : Nat → List (Int × Int)} {C U : Nat → Value} {Y : Nat → List Int} {w : World} (h : Wt W E R S B1 B2 lim now V X C U Y w) (i : Nat) (hi : i < 4) {g off L cap : Nat} (hU : U i = .slice (some ⟨g, off, none⟩) (L + 1) cap) (hl : (Y i).length = L + 1)
    (v' : Value) (hv : v' = .slice (if cap = 1 then some ⟨g, off, none⟩ else some ⟨g, off + 1, none⟩) L (cap - 1)) (ys : List Int) (hy : ys = (Y i).drop 1) : Wt W E R S B1 B2 lim now V X C (upd U i v') (upd Y i ys) w := by
  have hm := h.tb.own i hi
  rw [hU, hl] at hm
  have hc := hm.cut (k := 1) (by omega)
  have e1 : ((some (⟨g, off, none⟩ : Addr)).map (·.add (1 * 1))) = some ⟨g, off + 1, none⟩ := rfl
  rw [e1] at hc
  have e2 : nums ys = (nums (Y i)).drop (1 * 1) := by rw [hy]; unfold nums; rw [List.map_drop]
  have e3 : ys.length = L + 1 - 1 := by rw [hy, List.length_drop, hl]
  refine h.ran i hi ⟨World.grownBy.refl w _, .inl (by rw [hv, hU]; split <;> rfl)⟩ ?_
  rw [hv, e2, e3]
  exact hc
/-- The state between rounds: the cells hold the rows. -/
def Wu (W : World) (E R S B1 B2 n t : Nat) (w : World) : Prop := ∃ V X U Y, Wt W E R S B1 B2 n t V X U U Y w ∧ Rl X Y n t
set_option maxRecDepth 100000 in
set_option maxHeartbeats 9600000 in
theorem waits_any (a : Int) (A : Option Addr) (len cap : Nat) (F : Nat → Nat → Int) (W : World) (hx : Recs W A len 3 F) :
    Calls Try.prog 4 #[.int .i64 a, .slice A len cap] W fun e w' => e = .returned (.bool true) ∧ Below W.heap.size W w' := by
  obtain ⟨m, hm, hm9⟩ := withinV_nat a 21 (by omega)
  have hm' : withinV a (20 + 1) = m := hm
  have HM := Lib.hid hm'
  clear hm hm'
  obtain ⟨n, hn⟩ : ∃ n, n = 4 + m := ⟨_, rfl⟩
  have hn1 : (4 : Int) + m = n := by omega
  have HN := Lib.hid hn1
  have hn4 : 4 ≤ n := by omega
  have hn9 : n ≤ 24 := by omega
  clear hn hn1
  go_enter Try.func4, Try.ntmps4
  go_wp2_with (first
    | (go_at_call 6; refine (within_any _ 20 (by omega) (by omega) _).mono ?_; rintro e w1 ⟨rfl, rfl⟩; rw [HM.out])
    | (go_at_call 7; rw [HN.out]; refine (eNew_any 2 n _ (by omega) (by omega) (by omega) (by omega)).mono ?_; rintro e w1 ⟨E, rfl, hE, hB⟩)
    | fail)

  obtain ⟨w0, hw0⟩ : ∃ w0 : World, w0 = (w1.alloc (.cells #[.slice none 0 0, .slice none 0 0] 40)).alloc (.cells #[.slice none 0 0, .slice none 0 0] 40) := ⟨_, rfl⟩
  have hU : Wu W E W.heap.size (w1.heap.size + 2) w1.heap.size (w1.heap.size + 1) n 0 w0 := by
    have lE := hE.lt
    have c1 : ∀ i : Nat, i < 2 → w0.cell? ⟨w1.heap.size, i, none⟩ = some (.slice none 0 0) ∧ w0.frozen? ⟨w1.heap.size, i, none⟩ = false := fun i hi => by
      rw [hw0]
      refine ⟨(World.cell?_alloc_lt _ _ ⟨w1.heap.size, i, none⟩ (by simp)).trans ?_, ?_⟩
      · rw [World.cell?_alloc_at _ _ _ _ rfl]; rcases i with _ | _ | i <;> first | rfl | omega
      · rw [((Below.refl _ (w1.alloc (.cells #[.slice none 0 0, .slice none 0 0] 40))).alloc (Nat.le_refl _) _).frozen (p := ⟨w1.heap.size, i, none⟩) (by simp)]
        exact World.frozen?_alloc_at _ _ _ _ rfl
    have c2 : ∀ i : Nat, i < 2 → w0.cell? ⟨w1.heap.size + 1, i, none⟩ = some (.slice none 0 0) ∧ w0.frozen? ⟨w1.heap.size + 1, i, none⟩ = false := fun i hi => by
      rw [hw0]
      refine ⟨?_, World.frozen?_alloc_at _ _ _ _ (by simp)⟩
      rw [World.cell?_alloc_at _ _ _ _ (by simp)]; rcases i with _ | _ | i <;> first | rfl | omega
    have hb0 : Below w1.heap.size w1 w0 := by rw [hw0]; exact ((Below.refl _ _).alloc (Nat.le_refl _) _).alloc (by simp) _
    refine ⟨_, _, fun _ => .slice none 0 0, fun _ => [], ⟨hE.below hb0, ⟨fun i hi => ?_, fun i hi => ?_, fun i hi => Mid.nil _ _ _ _, fun i j _ _ _ g hg => by simp [Value.ownBlock] at hg, by omega, by omega, by omega, by rw [hw0]; simp⟩, fun j i _ _ g hg => by simp [Value.ownBlock] at hg, fun j _ => by simp [Value.ownBlock], by omega, by omega, hB.trans (hb0.mono hB.size)⟩, ⟨fun _ _ => rfl, fun _ _ => rfl, fun _ _ => by simp, fun _ _ p hp => by simp at hp⟩⟩
    · unfold Tat; split
      · exact (c1 i (by omega)).1
      · exact (c2 (i - 2) (by omega)).1
    · unfold Tat; split
      · exact (c1 i (by omega)).2
      · exact (c2 (i - 2) (by omega)).2
  have HU := Lib.hid hU
  have HW0 := Lib.hid hw0
  clear hU hw0 hE hB
  generalize hR : W.heap.size = R at HU
  generalize hS : w1.heap.size + 2 = S at HU
  generalize hB2 : w1.heap.size + 1 = B2 at *
  generalize hB1 : w1.heap.size = B1 at *
  rw [← HW0.out]
  clear hR hS hB2 hB1 HW0
  go_loopw [10] (fun i wr => ∃ (j t : Nat), i = .int .i64 j ∧ j ≤ 100 ∧ t ≤ j ∧ Hid (Wu W E R S B1 B2 n t wr)) (fun i _ => 100 - (intOf i).toNat)
  case atStart => exact ⟨0, 0, rfl, by omega, by omega, HU⟩
  case round =>
    clear HU
    obtain ⟨j, t, rfl, hj, htj, HU⟩ := hrel
    obtain ⟨V, X, U, Y, hW, hR⟩ := HU.out
    clear HU
    by_cases hin : j < len ∧ j < 100
    · obtain ⟨g1, g2⟩ := hin
      obtain ⟨ad, rfl, hab, hc⟩ := hx j g1
      have hd0 : wr.cell? (ad.add (j * 3)) = some (.int .i64 (F j 0)) := (hW.bel.cell (by rw [block_of_add]; exact hab)).trans (hc 0 (by omega))
      have hd1 : wr.cell? ⟨(ad.add (j * 3)).block, (ad.add (j * 3)).off + 1, none⟩ = some (.int .i64 (F j 1)) := by
        rw [← add_one_addr, add_of_add]; exact (hW.bel.cell (by rw [block_of_add]; exact hab)).trans (hc 1 (by omega))
      clear hc
      generalize F j 0 = kd0 at *
      generalize F j 1 = cl0 at *
      obtain ⟨c, hcw, hc2⟩ := withinV_nat cl0 2 (by omega)
      have hcw' : withinV cl0 (1 + 1) = c := hcw
      have HC := Lib.hid hcw'
      clear hcw hcw'
      obtain ⟨k, hkw, hk3⟩ := withinV_nat kd0 3 (by omega)
      have hkw' : withinV kd0 (2 + 1) = k := hkw
      have HK := Lib.hid hkw'
      clear hkw hkw'
      have hc0' : (0 : Int) ≤ c := by omega
      have hc1' : (c : Int) < 2 := by omega
      have F1 : Hid True := trivial
      have hlim : ∀ d, d < 2 → (Y d).length = (X d).length ∧ (Y (2 + d)).length = (X d).length ∧ (X d).length ≤ n := fun d hd => ⟨by rw [hR.f d hd]; simp, by rw [hR.s d hd]; simp, hR.ln d hd⟩
      have HL := Lib.hid hlim
      have HR := Lib.hid hR
      have HW := Lib.hid hW
      clear hlim hR hW
      rcases (show k = 0 ∨ k = 1 ∨ k = 2 by omega) with rfl | rfl | rfl
      · have hA2 := HW.out.setNow ((t : Int) + 1)
        have HA2 := Lib.hid hA2
        clear hA2
        go_wp2_with (first
          | (go_at_call 6; clear F1; refine (within_any _ 1 (by omega) (by omega) _).mono ?_; rintro e w1 ⟨rfl, rfl⟩; rw [HC.out])
          | (go_at_call 6; refine (within_any _ 2 (by omega) (by omega) _).mono ?_; rintro e w1 ⟨rfl, rfl⟩; rw [HK.out])
          | (go_at_call 11; refine (enow_any HW.out.es).mono ?_; rintro e w2 ⟨rfl, rfl⟩)
          | (go_at_call 10; refine (eadv_any HW.out.es (by omega) (by omega)).mono ?_; rintro e w2 ⟨rfl, rfl⟩)
          | fail)
        have hWu : Hid (∃ V X U Y, Wt W E R S B1 B2 n ((t + 1 : Nat) : Int) V X U U Y _ ∧ Rl X Y n (t + 1)) := Lib.hid ⟨V, X, U, Y, by rw [show ((t + 1 : Nat) : Int) = (t : Int) + 1 from by omega]; exact HA2.out, HR.out.later⟩
        obtain ⟨V', X', U', Y', hW', hR'⟩ := hWu.out
        have hL' : ∀ d, d < 2 → (Y' d).length = (X' d).length ∧ (X' d).length ≤ n := fun d hd => ⟨by rw [hR'.f d hd]; simp, hR'.ln d hd⟩
        obtain ⟨A0, c0, e0⟩ := (hW'.tb.own 0 (by omega)).form
        obtain ⟨A1, c1, e1⟩ := (hW'.tb.own 1 (by omega)).form
        have r0 : World.cell? _ ⟨B1, 0, none⟩ = some (U' 0) := hW'.tb.cv 0 (by omega)
        have r1 : World.cell? _ ⟨B1, 1, none⟩ = some (U' 1) := hW'.tb.cv 1 (by omega)
        rw [e0, (hL' 0 (by omega)).1] at r0
        rw [e1, (hL' 1 (by omega)).1] at r1
        have l0 := (hL' 0 (by omega)).2
        have l1 := (hL' 1 (by omega)).2
        have HW1 := Lib.hid hW'
        clear e0 e1 hL' hW' hR'
        generalize hx0 : (X' 0).length = L0 at *
        generalize hx1 : (X' 1).length = L1 at *
        have HX0 := Lib.hid hx0
        have HX1 := Lib.hid hx1
        clear hx0 hx1
        have G0 : Hid True := trivial
        go_region_held3 (fun w' => w'.cell? ⟨B1, 0, none⟩ = some (.slice A0 L0 c0) ∧ w'.cell? ⟨B1, 1, none⟩ = some (.slice A1 L1 c1)) (first | (go_keep; done) | exact r0 | exact r1 | exact ⟨r0, r1⟩)
          (first
            | (go_at_call 13; clear G0; refine (limbo0 (HW1.out.below ((Below.refl _ _).drew)).es).mono ?_; rintro e w5 ⟨rfl, rfl⟩; rw [HX0.out])
            | (go_at_call 13; refine (limbo1 (HW1.out.below ((Below.refl _ _).drew)).es).mono ?_; rintro e w5 ⟨rfl, rfl⟩; rw [HX1.out]))

        all_goals
          go_wp2
          go_roundw
          case rel => exact ⟨j + 1, t + 1, by go_num, by omega, by omega, Lib.hid (by obtain ⟨V9, X9, U9, Y9, h9, h8⟩ := hWu.out; exact ⟨V9, X9, U9, Y9, h9.below ((Below.refl _ _).drew), h8⟩)⟩
          case measure => simp only [intOf]; omega
      · have F2 : Hid True := trivial
        obtain ⟨Ac, cc, ec⟩ := (HW.out.tb.own c (by omega)).form
        rw [(HL.out c hc2).1] at ec
        have HEc := Lib.hid ec
        clear ec
        by_cases hln : (X c).length < n
        · generalize hxl : (X c).length = Lc at *
          have HXL := Lib.hid hxl
          clear hxl
          have hl1 : (Lc : Int) < n := by omega
          go_wp2_with (first
            | (go_at_call 6; clear F1; refine (within_any _ 1 (by omega) (by omega) _).mono ?_; rintro e w1 ⟨rfl, rfl⟩; rw [HC.out])
            | (go_at_call 6; refine (within_any _ 2 (by omega) (by omega) _).mono ?_; rintro e w1 ⟨rfl, rfl⟩; rw [HK.out])
            | (go_at_call 9; refine (ref_any j (by omega) _).mono ?_; rintro e w2 ⟨rfl, hb2⟩; have hW2 := HW.out.below hb2; have rc := (hW2.cells hc2).1; rw [HEc.out] at rc; have HW2 := Lib.hid (hW2.below ((Below.refl _ _).drew)); clear hW2)
            | fail)
          go_region_held3 (fun w' => w'.cell? ⟨B1, c, none⟩ = some (.slice Ac Lc cc)) (first | (go_keep; done) | exact rc3)
            (first
              | (go_at_call 8; refine (retire_ok HW2.out.es c hc2 _ (parts_any j (by omega)) (by rw [HXL.out]; omega) (by omega)).mono ?_; rintro e w3 ⟨rfl, v', hE3, hD3⟩; have hW3 := HW2.out.did c hc2 hE3 hD3; have rc3 := (hW3.cells hc2).1; rw [HEc.out] at rc3; have HW3 := Lib.hid hW3; clear hW3 hE3 hD3))
          all_goals
            go_wp2
            obtain ⟨i0, hi0, hz0, hz1, hz2⟩ := info_parts info3'
            have hW4 := HW3.out.below ((Below.refl _ _).drew)
            rw [show ((65536 + j : Nat) : Int) = 65536 + (j : Int) from by omega] at hW4
            have HW4 := Lib.hid hW4
            clear hW4
            have hS : w3.drew.cell? ⟨B2, c, none⟩ = some (U (2 + c)) := (HW4.out.cells hc2).2.1
            have HY1 : Hid ((Y c).length = Lc) := Lib.hid ((HL.out c hc2).1.trans HXL.out)
            have HY2 : Hid ((Y (2 + c)).length = Lc) := Lib.hid ((HL.out c hc2).2.1.trans HXL.out)
            refine wp_region_T (fun w' => w'.cell? ⟨B2, c, none⟩ = some (U (2 + c))) 17 (by kernel_rfl) ?_
            refine wpAnyT_take (i := 0) (oi := _) (v := ?_) (by rfl) (by kernel_rfl) (by intro _ _ _ h; exact h) hS (Or.inl ⟨by rfl, ?_⟩) ?_
            rotate_left 1
            · intro w' hS'
              go_simp
              all_goals with_reducible rfl
            simp only [Act.put, List.setIfInBounds_toArray, List.set_cons_zero, List.set_cons_succ]
            refine wpAnyT_take (i := 1) (oi := _) (v := ?_) (by rfl) (by kernel_rfl) (by intro _ _ _ h; exact h) hS (Or.inl ⟨by rfl, ?_⟩) ?_
            rotate_left 1
            · intro w' hS'
              go_simp
              all_goals with_reducible rfl
            simp only [Act.put, List.setIfInBounds_toArray, List.set_cons_zero, List.set_cons_succ]
            refine wpAnyT_take (i := 2) (oi := _) (v := ?_) (by rfl) (by kernel_rfl) (by intro _ _ _ h; exact h) hS (Or.inl ⟨by rfl, ?_⟩) ?_
            rotate_left 1
            · intro w' hS'
              go_simp
              all_goals with_reducible rfl
            simp only [Act.put, List.setIfInBounds_toArray, List.set_cons_zero, List.set_cons_succ]
            refine wpAnyT_take (i := 3) (oi := _) (v := ?_) (by rfl) (by kernel_rfl) (by intro _ _ _ h; exact h) hS (Or.inl ⟨by rfl, ?_⟩) ?_
            rotate_left 1
            · intro w' hS'
              go_simp
              all_goals with_reducible rfl
            simp only [Act.put, List.setIfInBounds_toArray, List.set_cons_zero, List.set_cons_succ]
            refine wpAnyT_take (i := 5) (oi := _) (v := ?_) (by rfl) (by kernel_rfl) (by intro _ _ _ h; exact h) hS (Or.inl ⟨by rfl, ?_⟩) ?_
            rotate_left 1
            · intro w' hS'
              go_simp
              all_goals with_reducible rfl
            simp only [Act.put, List.setIfInBounds_toArray, List.set_cons_zero, List.set_cons_succ]
            refine wpAnyT_take (i := 8) (oi := _) (v := ?_) (by rfl) (by kernel_rfl) (by intro _ _ _ h; exact h) hS (Or.inl ⟨by rfl, ?_⟩) ?_
            rotate_left 1
            · intro w' hS'
              go_simp
              all_goals with_reducible rfl
            simp only [Act.put, List.setIfInBounds_toArray, List.set_cons_zero, List.set_cons_succ]
            refine wpAnyT_take (i := 9) (oi := _) (v := ?_) (by rfl) (by kernel_rfl) (by intro _ _ _ h; exact h) hS (Or.inl ⟨by rfl, ?_⟩) ?_
            rotate_left 1
            · intro w' hS'
              go_simp
              all_goals with_reducible rfl
            simp only [Act.put, List.setIfInBounds_toArray, List.set_cons_zero, List.set_cons_succ]
            refine wpAnyT_take (i := 10) (oi := _) (v := ?_) (by rfl) (by kernel_rfl) (by intro _ _ _ h; exact h) hS (Or.inl ⟨by rfl, ?_⟩) ?_
            rotate_left 1
            · intro w' hS'
              go_simp
              all_goals with_reducible rfl
            simp only [Act.put, List.setIfInBounds_toArray, List.set_cons_zero, List.set_cons_succ]
            refine wpAnyT_take (i := 11) (oi := _) (v := ?_) (by rfl) (by kernel_rfl) (by intro _ _ _ h; exact h) hS (Or.inl ⟨by rfl, ?_⟩) ?_
            rotate_left 1
            · intro w' hS'
              go_simp
              all_goals with_reducible rfl
            simp only [Act.put, List.setIfInBounds_toArray, List.set_cons_zero, List.set_cons_succ]
            refine wpAnyT_all (rs := [4, 6]) (by kernel_rfl) (by simp) ?_
            intro ix hix
            simp only [List.mem_cons, List.not_mem_nil, or_false] at hix
            rcases hix with rfl | rfl
            · refine wpT_op (o := _) (by rfl) (fun K hK => ?_)
              go_simp
              refine hK _ _ (fun _ => hS) ?_
              clear hK K
              try simp only [Act.put, List.setIfInBounds_toArray, List.set_cons_zero, List.set_cons_succ]
              refine wpAnyT_all (rs := [6]) (by kernel_rfl) (by simp) ?_
              intro ix hix
              simp only [List.mem_cons, List.not_mem_nil, or_false] at hix
              subst hix
              refine wpT_op (o := _) (by rfl) (fun K hK => ?_)
              go_simp
              have HW5 := Lib.hid (HW4.out.below ((Below.refl _ _).alloc (Nat.le_refl _) (.cells #[.int .i64 (65536 + (j : Int))] 3)))
              refine hK _ _ (fun _ => (HW5.out.cells hc2).2.1) ?_
              clear hK K
              try simp only [Act.put, List.setIfInBounds_toArray, List.set_cons_zero, List.set_cons_succ]
              refine wpAnyT_all (rs := [7]) (by kernel_rfl) (by simp) ?_
              intro ix hix
              simp only [List.mem_cons, List.not_mem_nil, or_false] at hix
              subst hix
              refine wpT_op (o := _) (by rfl) (fun K hK => ?_)
              have hm5 := HW5.out.tb.own c (by omega)
              rw [HEc.out, HY1.out] at hm5
              refine step_append_mid (by rfl) _ _ _ (by rfl) S 3 i0 _ 1 8 Try.underlying39 hi0 hz0 hz1 hz2 rfl (by omega) (.slice Ac Lc cc) Lc (nums (Y c)) (by rfl) hm5 ⟨w3.heap.size, 0, none⟩ 1 1 [.int .i64 (65536 + (j : Int))] (by rfl) (by rfl) (World.news_of_block (cs := #[.int .i64 (65536 + (j : Int))]) (t := 3) (fr := (0, 0)) (heap_alloc_new w3.drew _)) (by simp [Value.oneCell']) (by unfold maxLen; omega) (by omega) HW5.out.tb.sz ?_
              intro v1 w6 hm6 hr6
              obtain ⟨A6, c6, rfl⟩ := hm6.form
              have HW6 := Lib.hid (HW5.out.ran c (by omega) (ys := Y c ++ [65536 + (j : Int)]) (by rw [HEc.out]; exact hr6) (by rw [List.length_append, nums_append, HY1.out]; exact hm6))
              clear hm5 hm6 hr6
              refine hK _ _ (fun _ => (HW6.out.cells hc2).2.1) ?_
              clear hK K
              try simp only [Act.put, List.setIfInBounds_toArray, List.set_cons_zero, List.set_cons_succ]
              have hS6 : w6.cell? ⟨B2, c, none⟩ = some (U (2 + c)) := (HW6.out.cells hc2).2.1
              refine wpAnyT_take (i := 15) (oi := _) (v := ?_) (by rfl) (by kernel_rfl) (by intro _ _ _ h; exact h) hS6 (Or.inl ⟨by rfl, ?_⟩) ?_
              rotate_left 1
              · intro w' hS'
                go_simp
                all_goals with_reducible rfl
              simp only [Act.put, List.setIfInBounds_toArray, List.set_cons_zero, List.set_cons_succ]
              refine wpAnyT_all (rs := [12]) (by kernel_rfl) (by simp) ?_
              intro ix hix
              simp only [List.mem_cons, List.not_mem_nil, or_false] at hix
              subst hix
              refine wpT_op (o := _) (by rfl) (fun K hK => ?_)
              go_simp
              go_at_call 11
              refine (enow_any HW6.out.es).mono ?_
              rintro e w7 ⟨rfl, rfl⟩
              refine hK _ _ (fun _ => (HW6.out.cells hc2).2.1) ?_
              clear hK K
              try simp only [Act.put, List.setIfInBounds_toArray, List.set_cons_zero, List.set_cons_succ]
              refine wpAnyT_all (rs := [13]) (by kernel_rfl) (by simp) ?_
              intro ix hix
              simp only [List.mem_cons, List.not_mem_nil, or_false] at hix
              subst hix
              refine wpT_op (o := _) (by rfl) (fun K hK => ?_)
              go_simp
              have HW7 := Lib.hid (HW6.out.below ((Below.refl _ _).alloc (Nat.le_refl _) (.cells #[.int .i64 (t : Int)] 3)))
              refine hK _ _ (fun _ => (HW7.out.cells hc2).2.1) ?_
              clear hK K
              try simp only [Act.put, List.setIfInBounds_toArray, List.set_cons_zero, List.set_cons_succ]
              refine wpAnyT_all (rs := [14]) (by kernel_rfl) (by simp) ?_
              intro ix hix
              simp only [List.mem_cons, List.not_mem_nil, or_false] at hix
              subst hix
              refine wpT_op (o := _) (by rfl) (fun K hK => ?_)
              have hm7 := HW7.out.tb.own (2 + c) (by omega)
              rw [upd_ne _ _ _ _ (by omega), upd_ne _ _ _ _ (by omega), HY2.out] at hm7
              refine step_append_mid (by rfl) _ _ _ (by rfl) S 3 i0 _ 1 8 Try.underlying39 hi0 hz0 hz1 hz2 rfl (by omega) (U (2 + c)) Lc (nums (Y (2 + c))) (by rfl) hm7 ⟨w7.heap.size, 0, none⟩ 1 1 [.int .i64 (t : Int)] (by rfl) (by rfl) (World.news_of_block (cs := #[.int .i64 (t : Int)]) (t := 3) (fr := (0, 0)) (heap_alloc_new w7 _)) (by simp [Value.oneCell']) (by unfold maxLen; omega) (by omega) HW7.out.tb.sz ?_
              intro v2 w8 hm8 hr8
              obtain ⟨A8, c8, rfl⟩ := hm8.form
              have HW8 := Lib.hid (HW7.out.ran (2 + c) (by omega) (ys := Y (2 + c) ++ [(t : Int)]) (by rw [upd_ne _ _ _ _ (by omega)]; exact hr8) (by rw [List.length_append, nums_append, HY2.out]; exact hm8))
              clear hm7 hm8 hr8
              refine hK _ _ (fun _ => (HW8.out.cells hc2).2.1) ?_
              clear hK K
              try simp only [Act.put, List.setIfInBounds_toArray, List.set_cons_zero, List.set_cons_succ]
              obtain ⟨k1, k2, k3, k4⟩ := HW8.out.cells hc2
              refine wpAnyT_all (rs := [16]) (by kernel_rfl) (by simp) ?_
              intro ix hix
              simp only [List.mem_cons, List.not_mem_nil, or_false] at hix
              subst hix
              refine wpT_op (o := _) (by rfl) (fun K hK => ?_)
              go_simp
              have HW9 := Lib.hid (HW8.out.store1 hc2 (.slice A6 (Lc + 1) c6))
              clear k1 k2 k3 k4
              obtain ⟨k1, k2, k3, k4⟩ := HW9.out.cells hc2
              have k5 : World.cell? _ ⟨B2, c, none⟩ = some (U (2 + c)) := k2.trans (by rw [upd_ne _ _ _ _ (by omega)])
              refine hK _ _ (fun _ => k5) ?_
              clear hK K
              try simp only [Act.put, List.setIfInBounds_toArray, List.set_cons_zero, List.set_cons_succ]
              refine wpAnyT_all (rs := [17]) (by kernel_rfl) (by simp) ?_
              intro ix hix
              simp only [List.mem_cons, List.not_mem_nil, or_false] at hix
              subst hix
              refine wpT_op (o := _) (by rfl) (fun K hK => ?_)
              go_simp
              refine hK _ _ (fun h => absurd h (by omega)) ?_
              clear hK K
              try simp only [Act.put, List.setIfInBounds_toArray, List.set_cons_zero, List.set_cons_succ]
              refine wpAnyT_all (rs := [18]) (by kernel_rfl) (by simp) ?_
              intro ix hix
              simp only [List.mem_cons, List.not_mem_nil, or_false] at hix
              subst hix
              refine wpT_op (o := _) (by rfl) (fun K hK => ?_)
              try go_simp
              refine hK _ _ (fun h => absurd h (by omega)) ?_
              clear hK K
              refine wpAnyT_done (by kernel_rfl) ?_ _
              have hWu : Hid (∃ V X U Y, Wt W E R S B1 B2 n (t : Int) V X U U Y _ ∧ Rl X Y n t) := Lib.hid ⟨_, _, _, _, HW9.out.store2 hc2 (.slice A8 (Lc + 1) c8), HR.out.put hc2 (by rw [HXL.out]; omega) _⟩
              clear k1 k2 k3 k4 k5 HW9 HW8 HW7 HW6 HW5 hS
              go_wp2
              obtain ⟨V', X', U', Y', hW', hR'⟩ := hWu.out
              have hL' : ∀ d, d < 2 → (Y' d).length = (X' d).length ∧ (X' d).length ≤ n := fun d hd => ⟨by rw [hR'.f d hd]; simp, hR'.ln d hd⟩
              obtain ⟨A0, c0, e0⟩ := (hW'.tb.own 0 (by omega)).form
              obtain ⟨A1, c1, e1⟩ := (hW'.tb.own 1 (by omega)).form
              have r0 : World.cell? _ ⟨B1, 0, none⟩ = some (U' 0) := hW'.tb.cv 0 (by omega)
              have r1 : World.cell? _ ⟨B1, 1, none⟩ = some (U' 1) := hW'.tb.cv 1 (by omega)
              rw [e0, (hL' 0 (by omega)).1] at r0
              rw [e1, (hL' 1 (by omega)).1] at r1
              have l0 := (hL' 0 (by omega)).2
              have l1 := (hL' 1 (by omega)).2
              have HW1 := Lib.hid hW'
              clear e0 e1 hL' hW' hR'
              generalize hx0 : (X' 0).length = L0 at *
              generalize hx1 : (X' 1).length = L1 at *
              have HX0 := Lib.hid hx0
              have HX1 := Lib.hid hx1
              clear hx0 hx1
              have G0 : Hid True := trivial
              go_region_held3 (fun w' => w'.cell? ⟨B1, 0, none⟩ = some (.slice A0 L0 c0) ∧ w'.cell? ⟨B1, 1, none⟩ = some (.slice A1 L1 c1)) (first | (go_keep; done) | exact r0 | exact r1 | exact ⟨r0, r1⟩)
                (first
                  | (go_at_call 13; clear G0; refine (limbo0 (HW1.out.below ((Below.refl _ _).drew)).es).mono ?_; rintro e w5 ⟨rfl, rfl⟩; rw [HX0.out])
                  | (go_at_call 13; refine (limbo1 (HW1.out.below ((Below.refl _ _).drew)).es).mono ?_; rintro e w5 ⟨rfl, rfl⟩; rw [HX1.out]))

              all_goals
                go_wp2
                go_roundw
                case rel => exact ⟨j + 1, t, by go_num, by omega, by omega, Lib.hid (by obtain ⟨V9, X9, U9, Y9, h9, h8⟩ := hWu.out; exact ⟨V9, X9, U9, Y9, h9.below ((Below.refl _ _).drew), h8⟩)⟩
                case measure => simp only [intOf]; omega
            · refine wpT_op (o := _) (by rfl) (fun K hK => ?_)
              go_simp
              have HW5 := Lib.hid (HW4.out.below ((Below.refl _ _).alloc (Nat.le_refl _) (.cells #[.int .i64 (65536 + (j : Int))] 3)))
              have r5 : (w3.alloc (.cells #[.int .i64 (65536 + (j : Int))] 3)).drew.cell? ⟨B1, c, none⟩ = some (.slice Ac Lc cc) := (HW5.out.cells hc2).1.trans (by rw [HEc.out])
              have r6 : (w3.alloc (.cells #[.int .i64 (65536 + (j : Int))] 3)).cell? ⟨B1, c, none⟩ = some (.slice Ac Lc cc) := r5
              refine hK _ _ (fun _ => (HW5.out.cells hc2).2.1) ?_
              clear hK K
              try simp only [Act.put, List.setIfInBounds_toArray, List.set_cons_zero, List.set_cons_succ]
              refine wpAnyT_all (rs := [4]) (by kernel_rfl) (by simp) ?_
              intro ix hix
              simp only [List.mem_cons, List.not_mem_nil, or_false] at hix
              subst hix
              refine wpT_op (o := _) (by rfl) (fun K hK => ?_)
              go_simp
              refine hK _ _ (fun _ => (HW5.out.cells hc2).2.1) ?_
              clear hK K
              try simp only [Act.put, List.setIfInBounds_toArray, List.set_cons_zero, List.set_cons_succ]
              refine wpAnyT_all (rs := [7]) (by kernel_rfl) (by simp) ?_
              intro ix hix
              simp only [List.mem_cons, List.not_mem_nil, or_false] at hix
              subst hix
              refine wpT_op (o := _) (by rfl) (fun K hK => ?_)
              have hm5 := HW5.out.tb.own c (by omega)
              rw [HEc.out, HY1.out] at hm5
              refine step_append_mid (by rfl) _ _ _ (by rfl) S 3 i0 _ 1 8 Try.underlying39 hi0 hz0 hz1 hz2 rfl (by omega) (.slice Ac Lc cc) Lc (nums (Y c)) (by rfl) hm5 ⟨w3.heap.size, 0, none⟩ 1 1 [.int .i64 (65536 + (j : Int))] (by rfl) (by rfl) (World.news_of_block (cs := #[.int .i64 (65536 + (j : Int))]) (t := 3) (fr := (0, 0)) (heap_alloc_new w3.drew _)) (by simp [Value.oneCell']) (by unfold maxLen; omega) (by omega) HW5.out.tb.sz ?_
              intro v1 w6 hm6 hr6
              obtain ⟨A6, c6, rfl⟩ := hm6.form
              have HW6 := Lib.hid (HW5.out.ran c (by omega) (ys := Y c ++ [65536 + (j : Int)]) (by rw [HEc.out]; exact hr6) (by rw [List.length_append, nums_append, HY1.out]; exact hm6))
              clear hm5 hm6 hr6
              refine hK _ _ (fun _ => (HW6.out.cells hc2).2.1) ?_
              clear hK K
              try simp only [Act.put, List.setIfInBounds_toArray, List.set_cons_zero, List.set_cons_succ]
              have hS6 : w6.cell? ⟨B2, c, none⟩ = some (U (2 + c)) := (HW6.out.cells hc2).2.1
              refine wpAnyT_take (i := 15) (oi := _) (v := ?_) (by rfl) (by kernel_rfl) (by intro _ _ _ h; exact h) hS6 (Or.inl ⟨by rfl, ?_⟩) ?_
              rotate_left 1
              · intro w' hS'
                go_simp
                all_goals with_reducible rfl
              simp only [Act.put, List.setIfInBounds_toArray, List.set_cons_zero, List.set_cons_succ]
              refine wpAnyT_all (rs := [12]) (by kernel_rfl) (by simp) ?_
              intro ix hix
              simp only [List.mem_cons, List.not_mem_nil, or_false] at hix
              subst hix
              refine wpT_op (o := _) (by rfl) (fun K hK => ?_)
              go_simp
              go_at_call 11
              refine (enow_any HW6.out.es).mono ?_
              rintro e w7 ⟨rfl, rfl⟩
              refine hK _ _ (fun _ => (HW6.out.cells hc2).2.1) ?_
              clear hK K
              try simp only [Act.put, List.setIfInBounds_toArray, List.set_cons_zero, List.set_cons_succ]
              refine wpAnyT_all (rs := [13]) (by kernel_rfl) (by simp) ?_
              intro ix hix
              simp only [List.mem_cons, List.not_mem_nil, or_false] at hix
              subst hix
              refine wpT_op (o := _) (by rfl) (fun K hK => ?_)
              go_simp
              have HW7 := Lib.hid (HW6.out.below ((Below.refl _ _).alloc (Nat.le_refl _) (.cells #[.int .i64 (t : Int)] 3)))
              refine hK _ _ (fun _ => (HW7.out.cells hc2).2.1) ?_
              clear hK K
              try simp only [Act.put, List.setIfInBounds_toArray, List.set_cons_zero, List.set_cons_succ]
              refine wpAnyT_all (rs := [14]) (by kernel_rfl) (by simp) ?_
              intro ix hix
              simp only [List.mem_cons, List.not_mem_nil, or_false] at hix
              subst hix
              refine wpT_op (o := _) (by rfl) (fun K hK => ?_)
              have hm7 := HW7.out.tb.own (2 + c) (by omega)
              rw [upd_ne _ _ _ _ (by omega), upd_ne _ _ _ _ (by omega), HY2.out] at hm7
              refine step_append_mid (by rfl) _ _ _ (by rfl) S 3 i0 _ 1 8 Try.underlying39 hi0 hz0 hz1 hz2 rfl (by omega) (U (2 + c)) Lc (nums (Y (2 + c))) (by rfl) hm7 ⟨w7.heap.size, 0, none⟩ 1 1 [.int .i64 (t : Int)] (by rfl) (by rfl) (World.news_of_block (cs := #[.int .i64 (t : Int)]) (t := 3) (fr := (0, 0)) (heap_alloc_new w7 _)) (by simp [Value.oneCell']) (by unfold maxLen; omega) (by omega) HW7.out.tb.sz ?_
              intro v2 w8 hm8 hr8
              obtain ⟨A8, c8, rfl⟩ := hm8.form
              have HW8 := Lib.hid (HW7.out.ran (2 + c) (by omega) (ys := Y (2 + c) ++ [(t : Int)]) (by rw [upd_ne _ _ _ _ (by omega)]; exact hr8) (by rw [List.length_append, nums_append, HY2.out]; exact hm8))
              clear hm7 hm8 hr8
              refine hK _ _ (fun _ => (HW8.out.cells hc2).2.1) ?_
              clear hK K
              try simp only [Act.put, List.setIfInBounds_toArray, List.set_cons_zero, List.set_cons_succ]
              obtain ⟨k1, k2, k3, k4⟩ := HW8.out.cells hc2
              refine wpAnyT_all (rs := [16]) (by kernel_rfl) (by simp) ?_
              intro ix hix
              simp only [List.mem_cons, List.not_mem_nil, or_false] at hix
              subst hix
              refine wpT_op (o := _) (by rfl) (fun K hK => ?_)
              go_simp
              have HW9 := Lib.hid (HW8.out.store1 hc2 (.slice A6 (Lc + 1) c6))
              clear k1 k2 k3 k4
              obtain ⟨k1, k2, k3, k4⟩ := HW9.out.cells hc2
              have k5 : World.cell? _ ⟨B2, c, none⟩ = some (U (2 + c)) := k2.trans (by rw [upd_ne _ _ _ _ (by omega)])
              refine hK _ _ (fun _ => k5) ?_
              clear hK K
              try simp only [Act.put, List.setIfInBounds_toArray, List.set_cons_zero, List.set_cons_succ]
              refine wpAnyT_all (rs := [17]) (by kernel_rfl) (by simp) ?_
              intro ix hix
              simp only [List.mem_cons, List.not_mem_nil, or_false] at hix
              subst hix
              refine wpT_op (o := _) (by rfl) (fun K hK => ?_)
              go_simp
              refine hK _ _ (fun h => absurd h (by omega)) ?_
              clear hK K
              try simp only [Act.put, List.setIfInBounds_toArray, List.set_cons_zero, List.set_cons_succ]
              refine wpAnyT_all (rs := [18]) (by kernel_rfl) (by simp) ?_
              intro ix hix
              simp only [List.mem_cons, List.not_mem_nil, or_false] at hix
              subst hix
              refine wpT_op (o := _) (by rfl) (fun K hK => ?_)
              try go_simp
              refine hK _ _ (fun h => absurd h (by omega)) ?_
              clear hK K
              refine wpAnyT_done (by kernel_rfl) ?_ _
              have hWu : Hid (∃ V X U Y, Wt W E R S B1 B2 n (t : Int) V X U U Y _ ∧ Rl X Y n t) := Lib.hid ⟨_, _, _, _, HW9.out.store2 hc2 (.slice A8 (Lc + 1) c8), HR.out.put hc2 (by rw [HXL.out]; omega) _⟩
              clear k1 k2 k3 k4 k5 HW9 HW8 HW7 HW6 HW5 hS
              go_wp2
              obtain ⟨V', X', U', Y', hW', hR'⟩ := hWu.out
              have hL' : ∀ d, d < 2 → (Y' d).length = (X' d).length ∧ (X' d).length ≤ n := fun d hd => ⟨by rw [hR'.f d hd]; simp, hR'.ln d hd⟩
              obtain ⟨A0, c0, e0⟩ := (hW'.tb.own 0 (by omega)).form
              obtain ⟨A1, c1, e1⟩ := (hW'.tb.own 1 (by omega)).form
              have r0 : World.cell? _ ⟨B1, 0, none⟩ = some (U' 0) := hW'.tb.cv 0 (by omega)
              have r1 : World.cell? _ ⟨B1, 1, none⟩ = some (U' 1) := hW'.tb.cv 1 (by omega)
              rw [e0, (hL' 0 (by omega)).1] at r0
              rw [e1, (hL' 1 (by omega)).1] at r1
              have l0 := (hL' 0 (by omega)).2
              have l1 := (hL' 1 (by omega)).2
              have HW1 := Lib.hid hW'
              clear e0 e1 hL' hW' hR'
              generalize hx0 : (X' 0).length = L0 at *
              generalize hx1 : (X' 1).length = L1 at *
              have HX0 := Lib.hid hx0
              have HX1 := Lib.hid hx1
              clear hx0 hx1
              have G0 : Hid True := trivial
              go_region_held3 (fun w' => w'.cell? ⟨B1, 0, none⟩ = some (.slice A0 L0 c0) ∧ w'.cell? ⟨B1, 1, none⟩ = some (.slice A1 L1 c1)) (first | (go_keep; done) | exact r0 | exact r1 | exact ⟨r0, r1⟩)
                (first
                  | (go_at_call 13; clear G0; refine (limbo0 (HW1.out.below ((Below.refl _ _).drew)).es).mono ?_; rintro e w5 ⟨rfl, rfl⟩; rw [HX0.out])
                  | (go_at_call 13; refine (limbo1 (HW1.out.below ((Below.refl _ _).drew)).es).mono ?_; rintro e w5 ⟨rfl, rfl⟩; rw [HX1.out]))

              all_goals
                go_wp2
                go_roundw
                case rel => exact ⟨j + 1, t, by go_num, by omega, by omega, Lib.hid (by obtain ⟨V9, X9, U9, Y9, h9, h8⟩ := hWu.out; exact ⟨V9, X9, U9, Y9, h9.below ((Below.refl _ _).drew), h8⟩)⟩
                case measure => simp only [intOf]; omega
        · generalize hxl : (X c).length = Lc at *
          have HXL := Lib.hid hxl
          clear hxl
          have hl1 : ¬ ((Lc : Int) < n) := by omega
          have hl2 : Hid ((n : Int) ≤ Lc) := Lib.hid (by omega)
          go_wp2_with (first
            | (go_at_call 6; clear F1; refine (within_any _ 1 (by omega) (by omega) _).mono ?_; rintro e w1 ⟨rfl, rfl⟩; rw [HC.out])
            | (go_at_call 6; refine (within_any _ 2 (by omega) (by omega) _).mono ?_; rintro e w1 ⟨rfl, rfl⟩; rw [HK.out])
            | (go_at_call 9; refine (ref_any j (by omega) _).mono ?_; rintro e w2 ⟨rfl, hb2⟩; have hW2 := HW.out.below hb2; have rc := (hW2.cells hc2).1; rw [HEc.out] at rc; have HW2 := Lib.hid (hW2.below ((Below.refl _ _).drew)); clear hW2)
            | fail)
          go_region_held3 (fun w' => w'.cell? ⟨B1, c, none⟩ = some (.slice Ac Lc cc)) (first | (go_keep; done) | exact rc3)
            (first
              | (go_at_call 8; refine (retire_full HW2.out.es c hc2 _ (parts_any j (by omega)) (by rw [HXL.out]; exact hl2.out)).mono ?_; rintro e w3 ⟨rfl, hb3⟩; have hW3 := HW2.out.below hb3; have rc3 := (hW3.cells hc2).1; rw [HEc.out] at rc3; have HW3 := Lib.hid hW3; clear hW3 hb3))
          all_goals
            go_wp2
            have hWu : Hid (∃ V X U Y, Wt W E R S B1 B2 n (t : Int) V X U U Y _ ∧ Rl X Y n t) := Lib.hid ⟨V, X, U, Y, HW3.out, HR.out⟩
            obtain ⟨V', X', U', Y', hW', hR'⟩ := hWu.out
            have hL' : ∀ d, d < 2 → (Y' d).length = (X' d).length ∧ (X' d).length ≤ n := fun d hd => ⟨by rw [hR'.f d hd]; simp, hR'.ln d hd⟩
            obtain ⟨A0, c0, e0⟩ := (hW'.tb.own 0 (by omega)).form
            obtain ⟨A1, c1, e1⟩ := (hW'.tb.own 1 (by omega)).form
            have r0 : World.cell? _ ⟨B1, 0, none⟩ = some (U' 0) := hW'.tb.cv 0 (by omega)
            have r1 : World.cell? _ ⟨B1, 1, none⟩ = some (U' 1) := hW'.tb.cv 1 (by omega)
            rw [e0, (hL' 0 (by omega)).1] at r0
            rw [e1, (hL' 1 (by omega)).1] at r1
            have l0 := (hL' 0 (by omega)).2
            have l1 := (hL' 1 (by omega)).2
            have HW1 := Lib.hid hW'
            clear e0 e1 hL' hW' hR'
            generalize hx0 : (X' 0).length = L0 at *
            generalize hx1 : (X' 1).length = L1 at *
            have HX0 := Lib.hid hx0
            have HX1 := Lib.hid hx1
            clear hx0 hx1
            have G0 : Hid True := trivial
            go_region_held3 (fun w' => w'.cell? ⟨B1, 0, none⟩ = some (.slice A0 L0 c0) ∧ w'.cell? ⟨B1, 1, none⟩ = some (.slice A1 L1 c1)) (first | (go_keep; done) | exact r0 | exact r1 | exact ⟨r0, r1⟩)
              (first
                | (go_at_call 13; clear G0; refine (limbo0 (HW1.out.below ((Below.refl _ _).drew)).es).mono ?_; rintro e w5 ⟨rfl, rfl⟩; rw [HX0.out])
                | (go_at_call 13; refine (limbo1 (HW1.out.below ((Below.refl _ _).drew)).es).mono ?_; rintro e w5 ⟨rfl, rfl⟩; rw [HX1.out]))

            all_goals
              go_wp2
              go_roundw
              case rel => exact ⟨j + 1, t, by go_num, by omega, by omega, Lib.hid (by obtain ⟨V9, X9, U9, Y9, h9, h8⟩ := hWu.out; exact ⟨V9, X9, U9, Y9, h9.below ((Below.refl _ _).drew), h8⟩)⟩
              case measure => simp only [intOf]; omega
      · have hR0 := HR.out
        cases hxc : X c with
        | nil =>
          have HXC := Lib.hid hxc
          clear hR0
          obtain ⟨Ac, cc, ec⟩ := (HW.out.tb.own c (by omega)).form
          rw [(HL.out c hc2).1, hxc] at ec
          have HEc : Hid (U c = .slice Ac 0 cc) := Lib.hid ec
          clear ec hxc
          go_wp2_with (first
            | (go_at_call 6; clear F1; refine (within_any _ 1 (by omega) (by omega) _).mono ?_; rintro e w1 ⟨rfl, rfl⟩; rw [HC.out])
            | (go_at_call 6; refine (within_any _ 2 (by omega) (by omega) _).mono ?_; rintro e w1 ⟨rfl, rfl⟩; rw [HK.out])
            | (go_at_call 12; refine (collect_empty HW.out.es c hc2 HXC.out).mono ?_; rintro e w2 ⟨rfl, hb2⟩; have hW2 := HW.out.below hb2; have rc := (hW2.cells hc2).1; rw [HEc.out] at rc; have HW2 := Lib.hid hW2; clear hW2)
            | fail)
          go_quiet (fail)
          go_wp2
          have hWu : Hid (∃ V X U Y, Wt W E R S B1 B2 n (t : Int) V X U U Y _ ∧ Rl X Y n t) := Lib.hid ⟨V, X, U, Y, HW2.out.below (below_drewN _ nq), HR.out⟩
          obtain ⟨V', X', U', Y', hW', hR'⟩ := hWu.out
          have hL' : ∀ d, d < 2 → (Y' d).length = (X' d).length ∧ (X' d).length ≤ n := fun d hd => ⟨by rw [hR'.f d hd]; simp, hR'.ln d hd⟩
          obtain ⟨A0, c0, e0⟩ := (hW'.tb.own 0 (by omega)).form
          obtain ⟨A1, c1, e1⟩ := (hW'.tb.own 1 (by omega)).form
          have r0 : World.cell? _ ⟨B1, 0, none⟩ = some (U' 0) := hW'.tb.cv 0 (by omega)
          have r1 : World.cell? _ ⟨B1, 1, none⟩ = some (U' 1) := hW'.tb.cv 1 (by omega)
          rw [e0, (hL' 0 (by omega)).1] at r0
          rw [e1, (hL' 1 (by omega)).1] at r1
          have l0 := (hL' 0 (by omega)).2
          have l1 := (hL' 1 (by omega)).2
          have HW1 := Lib.hid hW'
          clear e0 e1 hL' hW' hR'
          generalize hx0 : (X' 0).length = L0 at *
          generalize hx1 : (X' 1).length = L1 at *
          have HX0 := Lib.hid hx0
          have HX1 := Lib.hid hx1
          clear hx0 hx1
          have G0 : Hid True := trivial
          go_region_held3 (fun w' => w'.cell? ⟨B1, 0, none⟩ = some (.slice A0 L0 c0) ∧ w'.cell? ⟨B1, 1, none⟩ = some (.slice A1 L1 c1)) (first | (go_keep; done) | exact r0 | exact r1 | exact ⟨r0, r1⟩)
            (first
              | (go_at_call 13; clear G0; refine (limbo0 (HW1.out.below ((Below.refl _ _).drew)).es).mono ?_; rintro e w5 ⟨rfl, rfl⟩; rw [HX0.out])
              | (go_at_call 13; refine (limbo1 (HW1.out.below ((Below.refl _ _).drew)).es).mono ?_; rintro e w5 ⟨rfl, rfl⟩; rw [HX1.out]))

          all_goals
            go_wp2
            go_roundw
            case rel => exact ⟨j + 1, t, by go_num, by omega, by omega, Lib.hid (by obtain ⟨V9, X9, U9, Y9, h9, h8⟩ := hWu.out; exact ⟨V9, X9, U9, Y9, h9.below ((Below.refl _ _).drew), h8⟩)⟩
            case measure => simp only [intOf]; omega
        | cons p xs =>
          obtain ⟨r, ra⟩ := p
          have hrr := hR0.bd c hc2 (r, ra) (by rw [hxc]; exact List.mem_cons_self)
          have hra0 : 0 ≤ ra := hrr.1
          have hra9 : ra ≤ t := hrr.2
          have hlx : xs.length ≤ 24 := by have := hR0.ln c hc2; rw [hxc] at this; simp at this; omega
          have hf1 : Y c = r :: xs.map Prod.fst := by rw [hR0.f c hc2, hxc]; rfl
          have hs1 : Y (2 + c) = ra :: xs.map Prod.snd := by rw [hR0.s c hc2, hxc]; rfl
          clear hR0
          have hm1 := HW.out.tb.own c (by omega)
          have hm2 := HW.out.tb.own (2 + c) (by omega)
          rw [hf1] at hm1
          rw [hs1] at hm2
          obtain ⟨g1', o1, p1, q1, q2⟩ := hm1.head
          obtain ⟨g2', o2, p2, q3, q4⟩ := hm2.head
          simp only [List.length_map] at q1 q2 q3 q4
          generalize hLx : xs.length = Lx at *
          have HLx := Lib.hid hLx
          have HF1 := Lib.hid hf1
          have HS1 := Lib.hid hs1
          have HXC := Lib.hid hxc
          have HQ1 := Lib.hid q1
          have HQ3 := Lib.hid q3
          clear hLx hf1 hs1 hxc q1 q3 hm1 hm2 hrr
          have hlp : (0 : Int) < (Lx : Int) + 1 := by omega
          have HYL : Hid ((Y c).length = Lx + 1 ∧ (Y (2 + c)).length = Lx + 1) := Lib.hid ⟨by rw [HF1.out]; simp [HLx.out], by rw [HS1.out]; simp [HLx.out]⟩
          have HH : Hid (∀ V9 X9 w', Wt W E R S B1 B2 n t V9 X9 U U Y w' → w'.cell? ⟨B1, c, none⟩ = some (.slice (some ⟨g1', o1, none⟩) (Lx + 1) p1) ∧ w'.cell? ⟨B2, c, none⟩ = some (.slice (some ⟨g2', o2, none⟩) (Lx + 1) p2) ∧ w'.cell? ⟨g1', o1, none⟩ = some (.int .i64 r) ∧ w'.cell? ⟨g2', o2, none⟩ = some (.int .i64 ra)) := Lib.hid (fun V9 X9 w' h' => by
            have c1 := h'.cells hc2
            have m1 := h'.tb.own c (by omega)
            have m2 := h'.tb.own (2 + c) (by omega)
            rw [HQ1.out, HF1.out] at m1
            rw [HQ3.out, HS1.out] at m2
            rw [HQ1.out, HQ3.out] at c1
            simp only [List.length_cons, List.length_map, HLx.out] at m1 m2
            exact ⟨c1.1, c1.2.1, m1.head_cell, m2.head_cell⟩)
          by_cases hd : (t : Int) - ra < 2
          · have hd1 : ¬ (ra + 2 ≤ (t : Int)) := by omega
            go_wp2_with (first
              | (go_at_call 6; clear F1; refine (within_any _ 1 (by omega) (by omega) _).mono ?_; rintro e w1 ⟨rfl, rfl⟩; rw [HC.out])
              | (go_at_call 6; refine (within_any _ 2 (by omega) (by omega) _).mono ?_; rintro e w1 ⟨rfl, rfl⟩; rw [HK.out])
              | (go_at_call 12; refine (collect_early HW.out.es c hc2 r ra xs HXC.out hd hra0 (by omega) (by omega) (by omega) (by rw [HLx.out]; omega)).mono ?_; rintro e w2 ⟨rfl, hb2⟩; have hW2 := HW.out.below hb2; obtain ⟨k1, k2, k3, k4⟩ := HH.out _ _ _ hW2; have HW2 := Lib.hid hW2; clear hW2)
              | fail)
            go_region_held3 (fun w' => w'.cell? ⟨B1, c, none⟩ = some (.slice (some ⟨g1', o1, none⟩) (Lx + 1) p1) ∧ w'.cell? ⟨B2, c, none⟩ = some (.slice (some ⟨g2', o2, none⟩) (Lx + 1) p2) ∧ w'.cell? ⟨g2', o2, none⟩ = some (.int .i64 ra)) (go_keep)
              (first
                | (go_at_call 11; refine (enow_any (HW2.out.below ((Below.refl _ _).drew)).es).mono ?_; rintro e w5 ⟨rfl, rfl⟩))
            all_goals
              go_wp2
              have hWu : Hid (∃ V X U Y, Wt W E R S B1 B2 n (t : Int) V X U U Y _ ∧ Rl X Y n t) := Lib.hid ⟨V, X, U, Y, HW2.out.below ((Below.refl _ _).drew), HR.out⟩
              obtain ⟨V', X', U', Y', hW', hR'⟩ := hWu.out
              have hL' : ∀ d, d < 2 → (Y' d).length = (X' d).length ∧ (X' d).length ≤ n := fun d hd => ⟨by rw [hR'.f d hd]; simp, hR'.ln d hd⟩
              obtain ⟨A0, c0, e0⟩ := (hW'.tb.own 0 (by omega)).form
              obtain ⟨A1, c1, e1⟩ := (hW'.tb.own 1 (by omega)).form
              have r0 : World.cell? _ ⟨B1, 0, none⟩ = some (U' 0) := hW'.tb.cv 0 (by omega)
              have r1 : World.cell? _ ⟨B1, 1, none⟩ = some (U' 1) := hW'.tb.cv 1 (by omega)
              rw [e0, (hL' 0 (by omega)).1] at r0
              rw [e1, (hL' 1 (by omega)).1] at r1
              have l0 := (hL' 0 (by omega)).2
              have l1 := (hL' 1 (by omega)).2
              have HW1 := Lib.hid hW'
              clear e0 e1 hL' hW' hR'
              generalize hx0 : (X' 0).length = L0 at *
              generalize hx1 : (X' 1).length = L1 at *
              have HX0 := Lib.hid hx0
              have HX1 := Lib.hid hx1
              clear hx0 hx1
              have G0 : Hid True := trivial
              go_region_held3 (fun w' => w'.cell? ⟨B1, 0, none⟩ = some (.slice A0 L0 c0) ∧ w'.cell? ⟨B1, 1, none⟩ = some (.slice A1 L1 c1)) (first | (go_keep; done) | exact r0 | exact r1 | exact ⟨r0, r1⟩)
                (first
                  | (go_at_call 13; clear G0; refine (limbo0 (HW1.out.below ((Below.refl _ _).drew)).es).mono ?_; rintro e w5 ⟨rfl, rfl⟩; rw [HX0.out])
                  | (go_at_call 13; refine (limbo1 (HW1.out.below ((Below.refl _ _).drew)).es).mono ?_; rintro e w5 ⟨rfl, rfl⟩; rw [HX1.out]))

              all_goals
                go_wp2
                go_roundw
                case rel => exact ⟨j + 1, t, by go_num, by omega, by omega, Lib.hid (by obtain ⟨V9, X9, U9, Y9, h9, h8⟩ := hWu.out; exact ⟨V9, X9, U9, Y9, h9.below ((Below.refl _ _).drew), h8⟩)⟩
                case measure => simp only [intOf]; omega
          · have hd1 : ra + 2 ≤ (t : Int) := by omega
            go_wp2_with (first
              | (go_at_call 6; clear F1; refine (within_any _ 1 (by omega) (by omega) _).mono ?_; rintro e w1 ⟨rfl, rfl⟩; rw [HC.out])
              | (go_at_call 6; refine (within_any _ 2 (by omega) (by omega) _).mono ?_; rintro e w1 ⟨rfl, rfl⟩; rw [HK.out])
              | (go_at_call 12; refine (collect_ok HW.out.es c hc2 r ra xs HXC.out (by omega) hra0 (by omega) (by omega) (by omega) (by rw [HLx.out]; omega)).mono ?_; rintro e w2 ⟨rfl, v', hE2, hD2⟩; have hW2 := HW.out.did c hc2 hE2 hD2; obtain ⟨k1, k2, k3, k4⟩ := HH.out _ _ _ hW2; have HW2 := Lib.hid hW2; clear hW2 hE2 hD2)
              | fail)
            go_region_held3 (fun w' => w'.cell? ⟨B1, c, none⟩ = some (.slice (some ⟨g1', o1, none⟩) (Lx + 1) p1) ∧ w'.cell? ⟨B2, c, none⟩ = some (.slice (some ⟨g2', o2, none⟩) (Lx + 1) p2) ∧ w'.cell? ⟨g1', o1, none⟩ = some (.int .i64 r) ∧ w'.cell? ⟨g2', o2, none⟩ = some (.int .i64 ra)) (go_keep)
              (first
                | (go_at_call 11; refine (enow_any (HW2.out.below ((Below.refl _ _).drew)).es).mono ?_; rintro e w5 ⟨rfl, rfl⟩))
            all_goals
              go_wp2
              have hlq : (1 : Int) ≤ (Lx : Int) + 1 := by omega
              by_cases hp2 : p2 = 1
              · subst hp2
                by_cases hp1 : p1 = 1
                · subst hp1
                  have HL0 : Hid (Lx = 0) := Lib.hid (by omega)
                  have HW5 := Lib.hid ((((HW2.out.below ((Below.refl _ _).drew)).below ((Below.refl _ _).drew)).cutrow c (by omega) HQ1.out HYL.out.1 (.slice (some ⟨g1', o1, none⟩) 0 0) (by rw [HL0.out]; rfl) _ rfl).cutrow (2 + c) (by omega) ((upd_ne _ _ _ _ (by omega)).trans HQ3.out) (by rw [upd_ne _ _ _ _ (by omega)]; exact HYL.out.2) (.slice (some ⟨g2', o2, none⟩) 0 0) (by rw [HL0.out]; rfl) ((Y (2 + c)).drop 1) (by rw [upd_ne _ _ _ _ (by omega)]))
                  have HWz : Hid (Wt W E R S B1 B2 n t _ _ _ _ _ (((w2.setCell ⟨B1, c, none⟩ (.slice (some ⟨g1', o1, none⟩) 0 0)).setCell ⟨B2, c, none⟩ (.slice (some ⟨g2', o2, none⟩) 0 0)).drew.drew)) := Lib.hid ((HW5.out.store1 hc2 (.slice (some ⟨g1', o1, none⟩) 0 0)).store2 hc2 (.slice (some ⟨g2', o2, none⟩) 0 0))
                  have hne9 : B1 ≠ B2 := HW2.out.tb.ne
                  obtain ⟨_, _, f1, f2⟩ := HW2.out.cells hc2
                  refine wp_region_T (fun w' => w'.cell? ⟨B2, c, none⟩ = some (.slice (some ⟨g2', o2, none⟩) (Lx + 1) 1)) 12 (by kernel_rfl) ?_
                  have hS : w2.drew.drew.cell? ⟨B2, c, none⟩ = some (.slice (some ⟨g2', o2, none⟩) (Lx + 1) 1) := k2
                  refine wpAnyT_take (i := 0) (oi := _) (v := ?_) (by rfl) (by kernel_rfl) (by intro _ _ _ h; exact h) hS (Or.inl ⟨by rfl, ?_⟩) ?_
                  rotate_left 1
                  · intro w' hS'
                    go_simp
                    all_goals with_reducible rfl
                  simp only [Act.put, List.setIfInBounds_toArray, List.set_cons_zero, List.set_cons_succ]
                  refine wpAnyT_take (i := 1) (oi := _) (v := ?_) (by rfl) (by kernel_rfl) (by intro _ _ _ h; exact h) hS (Or.inl ⟨by rfl, ?_⟩) ?_
                  rotate_left 1
                  · intro w' hS'
                    go_simp
                    all_goals with_reducible rfl
                  simp only [Act.put, List.setIfInBounds_toArray, List.set_cons_zero, List.set_cons_succ]
                  refine wpAnyT_take (i := 2) (oi := _) (v := ?_) (by rfl) (by kernel_rfl) (by intro _ _ _ h; exact h) hS (Or.inl ⟨by rfl, ?_⟩) ?_
                  rotate_left 1
                  · intro w' hS'
                    go_simp
                    all_goals with_reducible rfl
                  simp only [Act.put, List.setIfInBounds_toArray, List.set_cons_zero, List.set_cons_succ]
                  refine wpAnyT_take (i := 3) (oi := _) (v := ?_) (by rfl) (by kernel_rfl) (by intro _ _ _ h; exact h) hS (Or.inl ⟨by rfl, ?_⟩) ?_
                  rotate_left 1
                  · intro w' hS'
                    go_simp
                    all_goals with_reducible rfl
                  simp only [Act.put, List.setIfInBounds_toArray, List.set_cons_zero, List.set_cons_succ]
                  refine wpAnyT_take (i := 6) (oi := _) (v := ?_) (by rfl) (by kernel_rfl) (by intro _ _ _ h; exact h) hS (Or.inl ⟨by rfl, ?_⟩) ?_
                  rotate_left 1
                  · intro w' hS'
                    go_simp
                    all_goals with_reducible rfl
                  simp only [Act.put, List.setIfInBounds_toArray, List.set_cons_zero, List.set_cons_succ]
                  refine wpAnyT_take (i := 7) (oi := _) (v := ?_) (by rfl) (by kernel_rfl) (by intro _ _ _ h; exact h) hS (Or.inl ⟨by rfl, ?_⟩) ?_
                  rotate_left 1
                  · intro w' hS'
                    go_simp
                    all_goals with_reducible rfl
                  simp only [Act.put, List.setIfInBounds_toArray, List.set_cons_zero, List.set_cons_succ]
                  refine wpAnyT_take (i := 8) (oi := _) (v := ?_) (by rfl) (by kernel_rfl) (by intro _ _ _ h; exact h) hS (Or.inl ⟨by rfl, ?_⟩) ?_
                  rotate_left 1
                  · intro w' hS'
                    go_simp
                    all_goals with_reducible rfl
                  simp only [Act.put, List.setIfInBounds_toArray, List.set_cons_zero, List.set_cons_succ]
                  refine wpAnyT_take (i := 9) (oi := _) (v := ?_) (by rfl) (by kernel_rfl) (by intro _ _ _ h; exact h) hS (Or.inl ⟨by rfl, ?_⟩) ?_
                  rotate_left 1
                  · intro w' hS'
                    go_simp
                    all_goals with_reducible rfl
                  simp only [Act.put, List.setIfInBounds_toArray, List.set_cons_zero, List.set_cons_succ]
                  refine wpAnyT_all (rs := [4]) (by kernel_rfl) (by simp) ?_
                  intro ix hix
                  simp only [List.mem_cons, List.not_mem_nil, or_false] at hix
                  subst hix
                  refine wpT_op (o := _) (by rfl) (fun K hK => ?_)
                  go_simp
                  refine hK _ _ (fun _ => hS) ?_
                  clear hK K
                  try simp only [Act.put, List.setIfInBounds_toArray, List.set_cons_zero, List.set_cons_succ]
                  refine wpAnyT_take (i := 5) (oi := _) (v := ?_) (by rfl) (by kernel_rfl) (by intro _ _ _ h; exact h) hS (Or.inl ⟨by rfl, ?_⟩) ?_
                  rotate_left 1
                  · intro w' hS'
                    go_simp
                    all_goals with_reducible rfl
                  simp only [Act.put, List.setIfInBounds_toArray, List.set_cons_zero, List.set_cons_succ]
                  refine wpAnyT_take (i := 10) (oi := _) (v := ?_) (by rfl) (by kernel_rfl) (by intro _ _ _ h; exact h) hS (Or.inl ⟨by rfl, ?_⟩) ?_
                  rotate_left 1
                  · intro w' hS'
                    go_simp
                    all_goals with_reducible rfl
                  simp only [Act.put, List.setIfInBounds_toArray, List.set_cons_zero, List.set_cons_succ]
                  refine wpAnyT_all (rs := [11]) (by kernel_rfl) (by simp) ?_
                  intro ix hix
                  simp only [List.mem_cons, List.not_mem_nil, or_false] at hix
                  subst hix
                  refine wpT_op (o := _) (by rfl) (fun K hK => ?_)
                  go_simp
                  have k9 : (w2.drew.drew.setCell ⟨B1, c, none⟩ (.slice (some ⟨g1', o1, none⟩) 0 0)).cell? ⟨B2, c, none⟩ = some (.slice (some ⟨g2', o2, none⟩) (Lx + 1) 1) := (World.cell?_setCell_far _ _ _ _ (show B1 ≠ B2 from hne9)).trans hS
                  have f9 : (w2.drew.drew.setCell ⟨B1, c, none⟩ (.slice (some ⟨g1', o1, none⟩) 0 0)).frozen? ⟨B2, c, none⟩ = false := by rw [World.frozen?_setCell]; exact f2
                  refine hK _ _ (fun _ => k9) ?_
                  clear hK K
                  try simp only [Act.put, List.setIfInBounds_toArray, List.set_cons_zero, List.set_cons_succ]
                  refine wpAnyT_all (rs := [12]) (by kernel_rfl) (by simp) ?_
                  intro ix hix
                  simp only [List.mem_cons, List.not_mem_nil, or_false] at hix
                  subst hix
                  refine wpT_op (o := _) (by rfl) (fun K hK => ?_)
                  go_simp
                  refine hK _ _ (fun h => absurd h (by omega)) ?_
                  clear hK K
                  try simp only [Act.put, List.setIfInBounds_toArray, List.set_cons_zero, List.set_cons_succ]
                  refine wpAnyT_all (rs := [13]) (by kernel_rfl) (by simp) ?_
                  intro ix hix
                  simp only [List.mem_cons, List.not_mem_nil, or_false] at hix
                  subst hix
                  refine wpT_op (o := _) (by rfl) (fun K hK => ?_)
                  try go_simp
                  refine hK _ _ (fun h => absurd h (by omega)) ?_
                  clear hK K
                  refine wpAnyT_done (by kernel_rfl) ?_ _
                  have hWu : Hid (∃ V X U Y, Wt W E R S B1 B2 n (t : Int) V X U U Y _ ∧ Rl X Y n t) := Lib.hid ⟨_, _, _, _, HWz.out, HR.out.cut hc2 HXC.out⟩
                  clear hne9 f1 f2 f9 k9 HW5 HWz hS
                  clear k1 k2 k3 k4
                  go_wp2
                  obtain ⟨V', X', U', Y', hW', hR'⟩ := hWu.out
                  have hL' : ∀ d, d < 2 → (Y' d).length = (X' d).length ∧ (X' d).length ≤ n := fun d hd => ⟨by rw [hR'.f d hd]; simp, hR'.ln d hd⟩
                  obtain ⟨A0, c0, e0⟩ := (hW'.tb.own 0 (by omega)).form
                  obtain ⟨A1, c1, e1⟩ := (hW'.tb.own 1 (by omega)).form
                  have r0 : World.cell? _ ⟨B1, 0, none⟩ = some (U' 0) := hW'.tb.cv 0 (by omega)
                  have r1 : World.cell? _ ⟨B1, 1, none⟩ = some (U' 1) := hW'.tb.cv 1 (by omega)
                  rw [e0, (hL' 0 (by omega)).1] at r0
                  rw [e1, (hL' 1 (by omega)).1] at r1
                  have l0 := (hL' 0 (by omega)).2
                  have l1 := (hL' 1 (by omega)).2
                  have HW1 := Lib.hid hW'
                  clear e0 e1 hL' hW' hR'
                  generalize hx0 : (X' 0).length = L0 at *
                  generalize hx1 : (X' 1).length = L1 at *
                  have HX0 := Lib.hid hx0
                  have HX1 := Lib.hid hx1
                  clear hx0 hx1
                  have G0 : Hid True := trivial
                  go_region_held3 (fun w' => w'.cell? ⟨B1, 0, none⟩ = some (.slice A0 L0 c0) ∧ w'.cell? ⟨B1, 1, none⟩ = some (.slice A1 L1 c1)) (first | (go_keep; done) | exact r0 | exact r1 | exact ⟨r0, r1⟩)
                    (first
                      | (go_at_call 13; clear G0; refine (limbo0 (HW1.out.below ((Below.refl _ _).drew)).es).mono ?_; rintro e w5 ⟨rfl, rfl⟩; rw [HX0.out])
                      | (go_at_call 13; refine (limbo1 (HW1.out.below ((Below.refl _ _).drew)).es).mono ?_; rintro e w5 ⟨rfl, rfl⟩; rw [HX1.out]))

                  all_goals
                    go_wp2
                    go_roundw
                    case rel => exact ⟨j + 1, t, by go_num, by omega, by omega, Lib.hid (by obtain ⟨V9, X9, U9, Y9, h9, h8⟩ := hWu.out; exact ⟨V9, X9, U9, Y9, h9.below ((Below.refl _ _).drew), h8⟩)⟩
                    case measure => simp only [intOf]; omega
                · have HL0 : Hid (Lx = 0) := Lib.hid (by omega)
                  have HW5 := Lib.hid ((((HW2.out.below ((Below.refl _ _).drew)).below ((Below.refl _ _).drew)).cutrow c (by omega) HQ1.out HYL.out.1 (.slice (some ⟨g1', o1 + 1, none⟩) 0 (p1 - 1)) (by rw [HL0.out, if_neg hp1]) _ rfl).cutrow (2 + c) (by omega) ((upd_ne _ _ _ _ (by omega)).trans HQ3.out) (by rw [upd_ne _ _ _ _ (by omega)]; exact HYL.out.2) (.slice (some ⟨g2', o2, none⟩) 0 0) (by rw [HL0.out]; rfl) ((Y (2 + c)).drop 1) (by rw [upd_ne _ _ _ _ (by omega)]))
                  have HWz : Hid (Wt W E R S B1 B2 n t _ _ _ _ _ (((w2.setCell ⟨B1, c, none⟩ (.slice (some ⟨g1', o1 + 1, none⟩) 0 (p1 - 1))).setCell ⟨B2, c, none⟩ (.slice (some ⟨g2', o2, none⟩) 0 0)).drew.drew)) := Lib.hid ((HW5.out.store1 hc2 (.slice (some ⟨g1', o1 + 1, none⟩) 0 (p1 - 1))).store2 hc2 (.slice (some ⟨g2', o2, none⟩) 0 0))
                  have hne9 : B1 ≠ B2 := HW2.out.tb.ne
                  obtain ⟨_, _, f1, f2⟩ := HW2.out.cells hc2
                  refine wp_region_T (fun w' => w'.cell? ⟨B2, c, none⟩ = some (.slice (some ⟨g2', o2, none⟩) (Lx + 1) 1)) 12 (by kernel_rfl) ?_
                  have hS : w2.drew.drew.cell? ⟨B2, c, none⟩ = some (.slice (some ⟨g2', o2, none⟩) (Lx + 1) 1) := k2
                  refine wpAnyT_take (i := 0) (oi := _) (v := ?_) (by rfl) (by kernel_rfl) (by intro _ _ _ h; exact h) hS (Or.inl ⟨by rfl, ?_⟩) ?_
                  rotate_left 1
                  · intro w' hS'
                    go_simp
                    all_goals with_reducible rfl
                  simp only [Act.put, List.setIfInBounds_toArray, List.set_cons_zero, List.set_cons_succ]
                  refine wpAnyT_take (i := 1) (oi := _) (v := ?_) (by rfl) (by kernel_rfl) (by intro _ _ _ h; exact h) hS (Or.inl ⟨by rfl, ?_⟩) ?_
                  rotate_left 1
                  · intro w' hS'
                    go_simp
                    all_goals with_reducible rfl
                  simp only [Act.put, List.setIfInBounds_toArray, List.set_cons_zero, List.set_cons_succ]
                  refine wpAnyT_take (i := 2) (oi := _) (v := ?_) (by rfl) (by kernel_rfl) (by intro _ _ _ h; exact h) hS (Or.inl ⟨by rfl, ?_⟩) ?_
                  rotate_left 1
                  · intro w' hS'
                    go_simp
                    all_goals with_reducible rfl
                  simp only [Act.put, List.setIfInBounds_toArray, List.set_cons_zero, List.set_cons_succ]
                  refine wpAnyT_take (i := 3) (oi := _) (v := ?_) (by rfl) (by kernel_rfl) (by intro _ _ _ h; exact h) hS (Or.inl ⟨by rfl, ?_⟩) ?_
                  rotate_left 1
                  · intro w' hS'
                    go_simp
                    all_goals with_reducible rfl
                  simp only [Act.put, List.setIfInBounds_toArray, List.set_cons_zero, List.set_cons_succ]
                  refine wpAnyT_take (i := 6) (oi := _) (v := ?_) (by rfl) (by kernel_rfl) (by intro _ _ _ h; exact h) hS (Or.inl ⟨by rfl, ?_⟩) ?_
                  rotate_left 1
                  · intro w' hS'
                    go_simp
                    all_goals with_reducible rfl
                  simp only [Act.put, List.setIfInBounds_toArray, List.set_cons_zero, List.set_cons_succ]
                  refine wpAnyT_take (i := 7) (oi := _) (v := ?_) (by rfl) (by kernel_rfl) (by intro _ _ _ h; exact h) hS (Or.inl ⟨by rfl, ?_⟩) ?_
                  rotate_left 1
                  · intro w' hS'
                    go_simp
                    all_goals with_reducible rfl
                  simp only [Act.put, List.setIfInBounds_toArray, List.set_cons_zero, List.set_cons_succ]
                  refine wpAnyT_take (i := 8) (oi := _) (v := ?_) (by rfl) (by kernel_rfl) (by intro _ _ _ h; exact h) hS (Or.inl ⟨by rfl, ?_⟩) ?_
                  rotate_left 1
                  · intro w' hS'
                    go_simp
                    all_goals with_reducible rfl
                  simp only [Act.put, List.setIfInBounds_toArray, List.set_cons_zero, List.set_cons_succ]
                  refine wpAnyT_take (i := 9) (oi := _) (v := ?_) (by rfl) (by kernel_rfl) (by intro _ _ _ h; exact h) hS (Or.inl ⟨by rfl, ?_⟩) ?_
                  rotate_left 1
                  · intro w' hS'
                    go_simp
                    all_goals with_reducible rfl
                  simp only [Act.put, List.setIfInBounds_toArray, List.set_cons_zero, List.set_cons_succ]
                  refine wpAnyT_all (rs := [4]) (by kernel_rfl) (by simp) ?_
                  intro ix hix
                  simp only [List.mem_cons, List.not_mem_nil, or_false] at hix
                  subst hix
                  refine wpT_op (o := _) (by rfl) (fun K hK => ?_)
                  go_simp
                  refine hK _ _ (fun _ => hS) ?_
                  clear hK K
                  try simp only [Act.put, List.setIfInBounds_toArray, List.set_cons_zero, List.set_cons_succ]
                  refine wpAnyT_take (i := 5) (oi := _) (v := ?_) (by rfl) (by kernel_rfl) (by intro _ _ _ h; exact h) hS (Or.inl ⟨by rfl, ?_⟩) ?_
                  rotate_left 1
                  · intro w' hS'
                    go_simp
                    all_goals with_reducible rfl
                  simp only [Act.put, List.setIfInBounds_toArray, List.set_cons_zero, List.set_cons_succ]
                  refine wpAnyT_take (i := 10) (oi := _) (v := ?_) (by rfl) (by kernel_rfl) (by intro _ _ _ h; exact h) hS (Or.inl ⟨by rfl, ?_⟩) ?_
                  rotate_left 1
                  · intro w' hS'
                    go_simp
                    all_goals with_reducible rfl
                  simp only [Act.put, List.setIfInBounds_toArray, List.set_cons_zero, List.set_cons_succ]
                  refine wpAnyT_all (rs := [11]) (by kernel_rfl) (by simp) ?_
                  intro ix hix
                  simp only [List.mem_cons, List.not_mem_nil, or_false] at hix
                  subst hix
                  refine wpT_op (o := _) (by rfl) (fun K hK => ?_)
                  go_simp
                  have k9 : (w2.drew.drew.setCell ⟨B1, c, none⟩ (.slice (some ⟨g1', o1 + 1, none⟩) 0 (p1 - 1))).cell? ⟨B2, c, none⟩ = some (.slice (some ⟨g2', o2, none⟩) (Lx + 1) 1) := (World.cell?_setCell_far _ _ _ _ (show B1 ≠ B2 from hne9)).trans hS
                  have f9 : (w2.drew.drew.setCell ⟨B1, c, none⟩ (.slice (some ⟨g1', o1 + 1, none⟩) 0 (p1 - 1))).frozen? ⟨B2, c, none⟩ = false := by rw [World.frozen?_setCell]; exact f2
                  refine hK _ _ (fun _ => k9) ?_
                  clear hK K
                  try simp only [Act.put, List.setIfInBounds_toArray, List.set_cons_zero, List.set_cons_succ]
                  refine wpAnyT_all (rs := [12]) (by kernel_rfl) (by simp) ?_
                  intro ix hix
                  simp only [List.mem_cons, List.not_mem_nil, or_false] at hix
                  subst hix
                  refine wpT_op (o := _) (by rfl) (fun K hK => ?_)
                  go_simp
                  refine hK _ _ (fun h => absurd h (by omega)) ?_
                  clear hK K
                  try simp only [Act.put, List.setIfInBounds_toArray, List.set_cons_zero, List.set_cons_succ]
                  refine wpAnyT_all (rs := [13]) (by kernel_rfl) (by simp) ?_
                  intro ix hix
                  simp only [List.mem_cons, List.not_mem_nil, or_false] at hix
                  subst hix
                  refine wpT_op (o := _) (by rfl) (fun K hK => ?_)
                  try go_simp
                  refine hK _ _ (fun h => absurd h (by omega)) ?_
                  clear hK K
                  refine wpAnyT_done (by kernel_rfl) ?_ _
                  have hWu : Hid (∃ V X U Y, Wt W E R S B1 B2 n (t : Int) V X U U Y _ ∧ Rl X Y n t) := Lib.hid ⟨_, _, _, _, HWz.out, HR.out.cut hc2 HXC.out⟩
                  clear hne9 f1 f2 f9 k9 HW5 HWz hS
                  clear k1 k2 k3 k4
                  go_wp2
                  obtain ⟨V', X', U', Y', hW', hR'⟩ := hWu.out
                  have hL' : ∀ d, d < 2 → (Y' d).length = (X' d).length ∧ (X' d).length ≤ n := fun d hd => ⟨by rw [hR'.f d hd]; simp, hR'.ln d hd⟩
                  obtain ⟨A0, c0, e0⟩ := (hW'.tb.own 0 (by omega)).form
                  obtain ⟨A1, c1, e1⟩ := (hW'.tb.own 1 (by omega)).form
                  have r0 : World.cell? _ ⟨B1, 0, none⟩ = some (U' 0) := hW'.tb.cv 0 (by omega)
                  have r1 : World.cell? _ ⟨B1, 1, none⟩ = some (U' 1) := hW'.tb.cv 1 (by omega)
                  rw [e0, (hL' 0 (by omega)).1] at r0
                  rw [e1, (hL' 1 (by omega)).1] at r1
                  have l0 := (hL' 0 (by omega)).2
                  have l1 := (hL' 1 (by omega)).2
                  have HW1 := Lib.hid hW'
                  clear e0 e1 hL' hW' hR'
                  generalize hx0 : (X' 0).length = L0 at *
                  generalize hx1 : (X' 1).length = L1 at *
                  have HX0 := Lib.hid hx0
                  have HX1 := Lib.hid hx1
                  clear hx0 hx1
                  have G0 : Hid True := trivial
                  go_region_held3 (fun w' => w'.cell? ⟨B1, 0, none⟩ = some (.slice A0 L0 c0) ∧ w'.cell? ⟨B1, 1, none⟩ = some (.slice A1 L1 c1)) (first | (go_keep; done) | exact r0 | exact r1 | exact ⟨r0, r1⟩)
                    (first
                      | (go_at_call 13; clear G0; refine (limbo0 (HW1.out.below ((Below.refl _ _).drew)).es).mono ?_; rintro e w5 ⟨rfl, rfl⟩; rw [HX0.out])
                      | (go_at_call 13; refine (limbo1 (HW1.out.below ((Below.refl _ _).drew)).es).mono ?_; rintro e w5 ⟨rfl, rfl⟩; rw [HX1.out]))

                  all_goals
                    go_wp2
                    go_roundw
                    case rel => exact ⟨j + 1, t, by go_num, by omega, by omega, Lib.hid (by obtain ⟨V9, X9, U9, Y9, h9, h8⟩ := hWu.out; exact ⟨V9, X9, U9, Y9, h9.below ((Below.refl _ _).drew), h8⟩)⟩
                    case measure => simp only [intOf]; omega
              · by_cases hp1 : p1 = 1
                · subst hp1
                  have HL0 : Hid (Lx = 0) := Lib.hid (by omega)
                  have HW5 := Lib.hid ((((HW2.out.below ((Below.refl _ _).drew)).below ((Below.refl _ _).drew)).cutrow c (by omega) HQ1.out HYL.out.1 (.slice (some ⟨g1', o1, none⟩) 0 0) (by rw [HL0.out]; rfl) _ rfl).cutrow (2 + c) (by omega) ((upd_ne _ _ _ _ (by omega)).trans HQ3.out) (by rw [upd_ne _ _ _ _ (by omega)]; exact HYL.out.2) (.slice (some ⟨g2', o2 + 1, none⟩) 0 (p2 - 1)) (by rw [HL0.out, if_neg hp2]) ((Y (2 + c)).drop 1) (by rw [upd_ne _ _ _ _ (by omega)]))
                  have HWz : Hid (Wt W E R S B1 B2 n t _ _ _ _ _ (((w2.setCell ⟨B1, c, none⟩ (.slice (some ⟨g1', o1, none⟩) 0 0)).setCell ⟨B2, c, none⟩ (.slice (some ⟨g2', o2 + 1, none⟩) 0 (p2 - 1))).drew.drew)) := Lib.hid ((HW5.out.store1 hc2 (.slice (some ⟨g1', o1, none⟩) 0 0)).store2 hc2 (.slice (some ⟨g2', o2 + 1, none⟩) 0 (p2 - 1)))
                  have hne9 : B1 ≠ B2 := HW2.out.tb.ne
                  obtain ⟨_, _, f1, f2⟩ := HW2.out.cells hc2
                  refine wp_region_T (fun w' => w'.cell? ⟨B2, c, none⟩ = some (.slice (some ⟨g2', o2, none⟩) (Lx + 1) p2)) 12 (by kernel_rfl) ?_
                  have hS : w2.drew.drew.cell? ⟨B2, c, none⟩ = some (.slice (some ⟨g2', o2, none⟩) (Lx + 1) p2) := k2
                  refine wpAnyT_take (i := 0) (oi := _) (v := ?_) (by rfl) (by kernel_rfl) (by intro _ _ _ h; exact h) hS (Or.inl ⟨by rfl, ?_⟩) ?_
                  rotate_left 1
                  · intro w' hS'
                    go_simp
                    all_goals with_reducible rfl
                  simp only [Act.put, List.setIfInBounds_toArray, List.set_cons_zero, List.set_cons_succ]
                  refine wpAnyT_take (i := 1) (oi := _) (v := ?_) (by rfl) (by kernel_rfl) (by intro _ _ _ h; exact h) hS (Or.inl ⟨by rfl, ?_⟩) ?_
                  rotate_left 1
                  · intro w' hS'
                    go_simp
                    all_goals with_reducible rfl
                  simp only [Act.put, List.setIfInBounds_toArray, List.set_cons_zero, List.set_cons_succ]
                  refine wpAnyT_take (i := 2) (oi := _) (v := ?_) (by rfl) (by kernel_rfl) (by intro _ _ _ h; exact h) hS (Or.inl ⟨by rfl, ?_⟩) ?_
                  rotate_left 1
                  · intro w' hS'
                    go_simp
                    all_goals with_reducible rfl
                  simp only [Act.put, List.setIfInBounds_toArray, List.set_cons_zero, List.set_cons_succ]
                  refine wpAnyT_take (i := 3) (oi := _) (v := ?_) (by rfl) (by kernel_rfl) (by intro _ _ _ h; exact h) hS (Or.inl ⟨by rfl, ?_⟩) ?_
                  rotate_left 1
                  · intro w' hS'
                    go_simp
                    all_goals with_reducible rfl
                  simp only [Act.put, List.setIfInBounds_toArray, List.set_cons_zero, List.set_cons_succ]
                  refine wpAnyT_take (i := 6) (oi := _) (v := ?_) (by rfl) (by kernel_rfl) (by intro _ _ _ h; exact h) hS (Or.inl ⟨by rfl, ?_⟩) ?_
                  rotate_left 1
                  · intro w' hS'
                    go_simp
                    all_goals with_reducible rfl
                  simp only [Act.put, List.setIfInBounds_toArray, List.set_cons_zero, List.set_cons_succ]
                  refine wpAnyT_take (i := 7) (oi := _) (v := ?_) (by rfl) (by kernel_rfl) (by intro _ _ _ h; exact h) hS (Or.inl ⟨by rfl, ?_⟩) ?_
                  rotate_left 1
                  · intro w' hS'
                    go_simp
                    all_goals with_reducible rfl
                  simp only [Act.put, List.setIfInBounds_toArray, List.set_cons_zero, List.set_cons_succ]
                  refine wpAnyT_take (i := 8) (oi := _) (v := ?_) (by rfl) (by kernel_rfl) (by intro _ _ _ h; exact h) hS (Or.inl ⟨by rfl, ?_⟩) ?_
                  rotate_left 1
                  · intro w' hS'
                    go_simp
                    all_goals with_reducible rfl
                  simp only [Act.put, List.setIfInBounds_toArray, List.set_cons_zero, List.set_cons_succ]
                  refine wpAnyT_take (i := 9) (oi := _) (v := ?_) (by rfl) (by kernel_rfl) (by intro _ _ _ h; exact h) hS (Or.inl ⟨by rfl, ?_⟩) ?_
                  rotate_left 1
                  · intro w' hS'
                    go_simp
                    all_goals with_reducible rfl
                  simp only [Act.put, List.setIfInBounds_toArray, List.set_cons_zero, List.set_cons_succ]
                  refine wpAnyT_all (rs := [4]) (by kernel_rfl) (by simp) ?_
                  intro ix hix
                  simp only [List.mem_cons, List.not_mem_nil, or_false] at hix
                  subst hix
                  refine wpT_op (o := _) (by rfl) (fun K hK => ?_)
                  go_simp
                  refine hK _ _ (fun _ => hS) ?_
                  clear hK K
                  try simp only [Act.put, List.setIfInBounds_toArray, List.set_cons_zero, List.set_cons_succ]
                  refine wpAnyT_take (i := 5) (oi := _) (v := ?_) (by rfl) (by kernel_rfl) (by intro _ _ _ h; exact h) hS (Or.inl ⟨by rfl, ?_⟩) ?_
                  rotate_left 1
                  · intro w' hS'
                    go_simp
                    all_goals with_reducible rfl
                  simp only [Act.put, List.setIfInBounds_toArray, List.set_cons_zero, List.set_cons_succ]
                  refine wpAnyT_take (i := 10) (oi := _) (v := ?_) (by rfl) (by kernel_rfl) (by intro _ _ _ h; exact h) hS (Or.inl ⟨by rfl, ?_⟩) ?_
                  rotate_left 1
                  · intro w' hS'
                    go_simp
                    all_goals with_reducible rfl
                  simp only [Act.put, List.setIfInBounds_toArray, List.set_cons_zero, List.set_cons_succ]
                  refine wpAnyT_all (rs := [11]) (by kernel_rfl) (by simp) ?_
                  intro ix hix
                  simp only [List.mem_cons, List.not_mem_nil, or_false] at hix
                  subst hix
                  refine wpT_op (o := _) (by rfl) (fun K hK => ?_)
                  go_simp
                  have k9 : (w2.drew.drew.setCell ⟨B1, c, none⟩ (.slice (some ⟨g1', o1, none⟩) 0 0)).cell? ⟨B2, c, none⟩ = some (.slice (some ⟨g2', o2, none⟩) (Lx + 1) p2) := (World.cell?_setCell_far _ _ _ _ (show B1 ≠ B2 from hne9)).trans hS
                  have f9 : (w2.drew.drew.setCell ⟨B1, c, none⟩ (.slice (some ⟨g1', o1, none⟩) 0 0)).frozen? ⟨B2, c, none⟩ = false := by rw [World.frozen?_setCell]; exact f2
                  refine hK _ _ (fun _ => k9) ?_
                  clear hK K
                  try simp only [Act.put, List.setIfInBounds_toArray, List.set_cons_zero, List.set_cons_succ]
                  refine wpAnyT_all (rs := [12]) (by kernel_rfl) (by simp) ?_
                  intro ix hix
                  simp only [List.mem_cons, List.not_mem_nil, or_false] at hix
                  subst hix
                  refine wpT_op (o := _) (by rfl) (fun K hK => ?_)
                  go_simp
                  refine hK _ _ (fun h => absurd h (by omega)) ?_
                  clear hK K
                  try simp only [Act.put, List.setIfInBounds_toArray, List.set_cons_zero, List.set_cons_succ]
                  refine wpAnyT_all (rs := [13]) (by kernel_rfl) (by simp) ?_
                  intro ix hix
                  simp only [List.mem_cons, List.not_mem_nil, or_false] at hix
                  subst hix
                  refine wpT_op (o := _) (by rfl) (fun K hK => ?_)
                  try go_simp
                  refine hK _ _ (fun h => absurd h (by omega)) ?_
                  clear hK K
                  refine wpAnyT_done (by kernel_rfl) ?_ _
                  have hWu : Hid (∃ V X U Y, Wt W E R S B1 B2 n (t : Int) V X U U Y _ ∧ Rl X Y n t) := Lib.hid ⟨_, _, _, _, HWz.out, HR.out.cut hc2 HXC.out⟩
                  clear hne9 f1 f2 f9 k9 HW5 HWz hS
                  clear k1 k2 k3 k4
                  go_wp2
                  obtain ⟨V', X', U', Y', hW', hR'⟩ := hWu.out
                  have hL' : ∀ d, d < 2 → (Y' d).length = (X' d).length ∧ (X' d).length ≤ n := fun d hd => ⟨by rw [hR'.f d hd]; simp, hR'.ln d hd⟩
                  obtain ⟨A0, c0, e0⟩ := (hW'.tb.own 0 (by omega)).form
                  obtain ⟨A1, c1, e1⟩ := (hW'.tb.own 1 (by omega)).form
                  have r0 : World.cell? _ ⟨B1, 0, none⟩ = some (U' 0) := hW'.tb.cv 0 (by omega)
                  have r1 : World.cell? _ ⟨B1, 1, none⟩ = some (U' 1) := hW'.tb.cv 1 (by omega)
                  rw [e0, (hL' 0 (by omega)).1] at r0
                  rw [e1, (hL' 1 (by omega)).1] at r1
                  have l0 := (hL' 0 (by omega)).2
                  have l1 := (hL' 1 (by omega)).2
                  have HW1 := Lib.hid hW'
                  clear e0 e1 hL' hW' hR'
                  generalize hx0 : (X' 0).length = L0 at *
                  generalize hx1 : (X' 1).length = L1 at *
                  have HX0 := Lib.hid hx0
                  have HX1 := Lib.hid hx1
                  clear hx0 hx1
                  have G0 : Hid True := trivial
                  go_region_held3 (fun w' => w'.cell? ⟨B1, 0, none⟩ = some (.slice A0 L0 c0) ∧ w'.cell? ⟨B1, 1, none⟩ = some (.slice A1 L1 c1)) (first | (go_keep; done) | exact r0 | exact r1 | exact ⟨r0, r1⟩)
                    (first
                      | (go_at_call 13; clear G0; refine (limbo0 (HW1.out.below ((Below.refl _ _).drew)).es).mono ?_; rintro e w5 ⟨rfl, rfl⟩; rw [HX0.out])
                      | (go_at_call 13; refine (limbo1 (HW1.out.below ((Below.refl _ _).drew)).es).mono ?_; rintro e w5 ⟨rfl, rfl⟩; rw [HX1.out]))

                  all_goals
                    go_wp2
                    go_roundw
                    case rel => exact ⟨j + 1, t, by go_num, by omega, by omega, Lib.hid (by obtain ⟨V9, X9, U9, Y9, h9, h8⟩ := hWu.out; exact ⟨V9, X9, U9, Y9, h9.below ((Below.refl _ _).drew), h8⟩)⟩
                    case measure => simp only [intOf]; omega
                · have HW5 := Lib.hid ((((HW2.out.below ((Below.refl _ _).drew)).below ((Below.refl _ _).drew)).cutrow c (by omega) HQ1.out HYL.out.1 (.slice (some ⟨g1', o1 + 1, none⟩) Lx (p1 - 1)) (by rw [if_neg hp1]) _ rfl).cutrow (2 + c) (by omega) ((upd_ne _ _ _ _ (by omega)).trans HQ3.out) (by rw [upd_ne _ _ _ _ (by omega)]; exact HYL.out.2) (.slice (some ⟨g2', o2 + 1, none⟩) Lx (p2 - 1)) (by rw [if_neg hp2]) ((Y (2 + c)).drop 1) (by rw [upd_ne _ _ _ _ (by omega)]))
                  have HWz : Hid (Wt W E R S B1 B2 n t _ _ _ _ _ (((w2.setCell ⟨B1, c, none⟩ (.slice (some ⟨g1', o1 + 1, none⟩) Lx (p1 - 1))).setCell ⟨B2, c, none⟩ (.slice (some ⟨g2', o2 + 1, none⟩) Lx (p2 - 1))).drew.drew)) := Lib.hid ((HW5.out.store1 hc2 (.slice (some ⟨g1', o1 + 1, none⟩) Lx (p1 - 1))).store2 hc2 (.slice (some ⟨g2', o2 + 1, none⟩) Lx (p2 - 1)))
                  have hne9 : B1 ≠ B2 := HW2.out.tb.ne
                  obtain ⟨_, _, f1, f2⟩ := HW2.out.cells hc2
                  refine wp_region_T (fun w' => w'.cell? ⟨B2, c, none⟩ = some (.slice (some ⟨g2', o2, none⟩) (Lx + 1) p2)) 12 (by kernel_rfl) ?_
                  have hS : w2.drew.drew.cell? ⟨B2, c, none⟩ = some (.slice (some ⟨g2', o2, none⟩) (Lx + 1) p2) := k2
                  refine wpAnyT_take (i := 0) (oi := _) (v := ?_) (by rfl) (by kernel_rfl) (by intro _ _ _ h; exact h) hS (Or.inl ⟨by rfl, ?_⟩) ?_
                  rotate_left 1
                  · intro w' hS'
                    go_simp
                    all_goals with_reducible rfl
                  simp only [Act.put, List.setIfInBounds_toArray, List.set_cons_zero, List.set_cons_succ]
                  refine wpAnyT_take (i := 1) (oi := _) (v := ?_) (by rfl) (by kernel_rfl) (by intro _ _ _ h; exact h) hS (Or.inl ⟨by rfl, ?_⟩) ?_
                  rotate_left 1
                  · intro w' hS'
                    go_simp
                    all_goals with_reducible rfl
                  simp only [Act.put, List.setIfInBounds_toArray, List.set_cons_zero, List.set_cons_succ]
                  refine wpAnyT_take (i := 2) (oi := _) (v := ?_) (by rfl) (by kernel_rfl) (by intro _ _ _ h; exact h) hS (Or.inl ⟨by rfl, ?_⟩) ?_
                  rotate_left 1
                  · intro w' hS'
                    go_simp
                    all_goals with_reducible rfl
                  simp only [Act.put, List.setIfInBounds_toArray, List.set_cons_zero, List.set_cons_succ]
                  refine wpAnyT_take (i := 3) (oi := _) (v := ?_) (by rfl) (by kernel_rfl) (by intro _ _ _ h; exact h) hS (Or.inl ⟨by rfl, ?_⟩) ?_
                  rotate_left 1
                  · intro w' hS'
                    go_simp
                    all_goals with_reducible rfl
                  simp only [Act.put, List.setIfInBounds_toArray, List.set_cons_zero, List.set_cons_succ]
                  refine wpAnyT_take (i := 6) (oi := _) (v := ?_) (by rfl) (by kernel_rfl) (by intro _ _ _ h; exact h) hS (Or.inl ⟨by rfl, ?_⟩) ?_
                  rotate_left 1
                  · intro w' hS'
                    go_simp
                    all_goals with_reducible rfl
                  simp only [Act.put, List.setIfInBounds_toArray, List.set_cons_zero, List.set_cons_succ]
                  refine wpAnyT_take (i := 7) (oi := _) (v := ?_) (by rfl) (by kernel_rfl) (by intro _ _ _ h; exact h) hS (Or.inl ⟨by rfl, ?_⟩) ?_
                  rotate_left 1
                  · intro w' hS'
                    go_simp
                    all_goals with_reducible rfl
                  simp only [Act.put, List.setIfInBounds_toArray, List.set_cons_zero, List.set_cons_succ]
                  refine wpAnyT_take (i := 8) (oi := _) (v := ?_) (by rfl) (by kernel_rfl) (by intro _ _ _ h; exact h) hS (Or.inl ⟨by rfl, ?_⟩) ?_
                  rotate_left 1
                  · intro w' hS'
                    go_simp
                    all_goals with_reducible rfl
                  simp only [Act.put, List.setIfInBounds_toArray, List.set_cons_zero, List.set_cons_succ]
                  refine wpAnyT_take (i := 9) (oi := _) (v := ?_) (by rfl) (by kernel_rfl) (by intro _ _ _ h; exact h) hS (Or.inl ⟨by rfl, ?_⟩) ?_
                  rotate_left 1
                  · intro w' hS'
                    go_simp
                    all_goals with_reducible rfl
                  simp only [Act.put, List.setIfInBounds_toArray, List.set_cons_zero, List.set_cons_succ]
                  refine wpAnyT_all (rs := [4]) (by kernel_rfl) (by simp) ?_
                  intro ix hix
                  simp only [List.mem_cons, List.not_mem_nil, or_false] at hix
                  subst hix
                  refine wpT_op (o := _) (by rfl) (fun K hK => ?_)
                  go_simp
                  refine hK _ _ (fun _ => hS) ?_
                  clear hK K
                  try simp only [Act.put, List.setIfInBounds_toArray, List.set_cons_zero, List.set_cons_succ]
                  refine wpAnyT_take (i := 5) (oi := _) (v := ?_) (by rfl) (by kernel_rfl) (by intro _ _ _ h; exact h) hS (Or.inl ⟨by rfl, ?_⟩) ?_
                  rotate_left 1
                  · intro w' hS'
                    go_simp
                    all_goals with_reducible rfl
                  simp only [Act.put, List.setIfInBounds_toArray, List.set_cons_zero, List.set_cons_succ]
                  refine wpAnyT_take (i := 10) (oi := _) (v := ?_) (by rfl) (by kernel_rfl) (by intro _ _ _ h; exact h) hS (Or.inl ⟨by rfl, ?_⟩) ?_
                  rotate_left 1
                  · intro w' hS'
                    go_simp
                    all_goals with_reducible rfl
                  simp only [Act.put, List.setIfInBounds_toArray, List.set_cons_zero, List.set_cons_succ]
                  refine wpAnyT_all (rs := [11]) (by kernel_rfl) (by simp) ?_
                  intro ix hix
                  simp only [List.mem_cons, List.not_mem_nil, or_false] at hix
                  subst hix
                  refine wpT_op (o := _) (by rfl) (fun K hK => ?_)
                  go_simp
                  have k9 : (w2.drew.drew.setCell ⟨B1, c, none⟩ (.slice (some ⟨g1', o1 + 1, none⟩) Lx (p1 - 1))).cell? ⟨B2, c, none⟩ = some (.slice (some ⟨g2', o2, none⟩) (Lx + 1) p2) := (World.cell?_setCell_far _ _ _ _ (show B1 ≠ B2 from hne9)).trans hS
                  have f9 : (w2.drew.drew.setCell ⟨B1, c, none⟩ (.slice (some ⟨g1', o1 + 1, none⟩) Lx (p1 - 1))).frozen? ⟨B2, c, none⟩ = false := by rw [World.frozen?_setCell]; exact f2
                  refine hK _ _ (fun _ => k9) ?_
                  clear hK K
                  try simp only [Act.put, List.setIfInBounds_toArray, List.set_cons_zero, List.set_cons_succ]
                  refine wpAnyT_all (rs := [12]) (by kernel_rfl) (by simp) ?_
                  intro ix hix
                  simp only [List.mem_cons, List.not_mem_nil, or_false] at hix
                  subst hix
                  refine wpT_op (o := _) (by rfl) (fun K hK => ?_)
                  go_simp
                  refine hK _ _ (fun h => absurd h (by omega)) ?_
                  clear hK K
                  try simp only [Act.put, List.setIfInBounds_toArray, List.set_cons_zero, List.set_cons_succ]
                  refine wpAnyT_all (rs := [13]) (by kernel_rfl) (by simp) ?_
                  intro ix hix
                  simp only [List.mem_cons, List.not_mem_nil, or_false] at hix
                  subst hix
                  refine wpT_op (o := _) (by rfl) (fun K hK => ?_)
                  try go_simp
                  refine hK _ _ (fun h => absurd h (by omega)) ?_
                  clear hK K
                  refine wpAnyT_done (by kernel_rfl) ?_ _
                  have hWu : Hid (∃ V X U Y, Wt W E R S B1 B2 n (t : Int) V X U U Y _ ∧ Rl X Y n t) := Lib.hid ⟨_, _, _, _, HWz.out, HR.out.cut hc2 HXC.out⟩
                  clear hne9 f1 f2 f9 k9 HW5 HWz hS
                  clear k1 k2 k3 k4
                  go_wp2
                  obtain ⟨V', X', U', Y', hW', hR'⟩ := hWu.out
                  have hL' : ∀ d, d < 2 → (Y' d).length = (X' d).length ∧ (X' d).length ≤ n := fun d hd => ⟨by rw [hR'.f d hd]; simp, hR'.ln d hd⟩
                  obtain ⟨A0, c0, e0⟩ := (hW'.tb.own 0 (by omega)).form
                  obtain ⟨A1, c1, e1⟩ := (hW'.tb.own 1 (by omega)).form
                  have r0 : World.cell? _ ⟨B1, 0, none⟩ = some (U' 0) := hW'.tb.cv 0 (by omega)
                  have r1 : World.cell? _ ⟨B1, 1, none⟩ = some (U' 1) := hW'.tb.cv 1 (by omega)
                  rw [e0, (hL' 0 (by omega)).1] at r0
                  rw [e1, (hL' 1 (by omega)).1] at r1
                  have l0 := (hL' 0 (by omega)).2
                  have l1 := (hL' 1 (by omega)).2
                  have HW1 := Lib.hid hW'
                  clear e0 e1 hL' hW' hR'
                  generalize hx0 : (X' 0).length = L0 at *
                  generalize hx1 : (X' 1).length = L1 at *
                  have HX0 := Lib.hid hx0
                  have HX1 := Lib.hid hx1
                  clear hx0 hx1
                  have G0 : Hid True := trivial
                  go_region_held3 (fun w' => w'.cell? ⟨B1, 0, none⟩ = some (.slice A0 L0 c0) ∧ w'.cell? ⟨B1, 1, none⟩ = some (.slice A1 L1 c1)) (first | (go_keep; done) | exact r0 | exact r1 | exact ⟨r0, r1⟩)
                    (first
                      | (go_at_call 13; clear G0; refine (limbo0 (HW1.out.below ((Below.refl _ _).drew)).es).mono ?_; rintro e w5 ⟨rfl, rfl⟩; rw [HX0.out])
                      | (go_at_call 13; refine (limbo1 (HW1.out.below ((Below.refl _ _).drew)).es).mono ?_; rintro e w5 ⟨rfl, rfl⟩; rw [HX1.out]))

                  all_goals
                    go_wp2
                    go_roundw
                    case rel => exact ⟨j + 1, t, by go_num, by omega, by omega, Lib.hid (by obtain ⟨V9, X9, U9, Y9, h9, h8⟩ := hWu.out; exact ⟨V9, X9, U9, Y9, h9.below ((Below.refl _ _).drew), h8⟩)⟩
                    case measure => simp only [intOf]; omega
    · have HI := Lib.hid hin
      have HB := Lib.hid hW.bel
      clear hin hW hR
      go_wp2_with (first
        | (go_at_call 14; refine (epochRuns_any _).mono ?_; rintro e w9 ⟨rfl, hb9⟩)
        | fail)
      all_goals first
        | (exfalso; have := HI.out; omega)
        | (go_ret; exact ⟨rfl, HB.out.trans (hb9.mono HB.out.size)⟩)
end Go.Proofs.Ytafedpphecfgnaa
