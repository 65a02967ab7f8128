/-
  PostingSeeks; conditions: lengths.
-/
import Derived.Test.YtokjeglhmmijfaaPsj
namespace Go.Proofs.Ytokjeglhmmijfaa
open Go.RowKit Go.WideShapes Go.ChangeShapes
set_option linter.all false
theorem within_add (n : Int) (m d : Nat) (h9 : m + d ≤ 1000000) (w : World) :
    Calls Try.prog 19 #[.int .i64 n, .int .i64 0, .int .i64 ((m : Int) + (d : Int))] w fun e w' => ∃ k : Nat, e = .returned (.int .i64 (k : Int)) ∧ k ≤ m + d ∧ w = w' := by
  refine (within_any n ((m : Int) + (d : Int)) (by omega) (by omega) w).mono ?_
  rintro e w' ⟨rfl, rfl⟩
  obtain ⟨k, hk, hlt⟩ := withinV_nat n (m + d + 1) (by omega)
  exact ⟨k, by rw [← hk, show ((m + d + 1 : Nat) : Int) = (m : Int) + (d : Int) + 1 from by omega], by omega, rfl⟩
/-- A rising list whose last is m. -/
structure As (l : List Nat) (m : Nat) : Prop where
  asc : ascB 0 l = true
  le : ∀ y ∈ l, y ≤ m
  last : l ≠ [] → m ∈ l
theorem As.nil : As [] 0 := ⟨rfl, by simp, fun h => absurd rfl h⟩
theorem As.snoc {l : List Nat} {m m' : Nat} (h : As l m) (hm : m < m') (h9 : m' ≤ 1073741824) : As (l ++ [m']) m' :=
  ⟨by
    rw [asc_app]
    refine ⟨h.asc, by unfold ascB; simp [ascB]; exact h9, fun x hx y hy => ?_⟩
    rw [List.mem_singleton] at hy; have := h.le x hx; omega, fun y hy => by
    rw [List.mem_append, List.mem_singleton] at hy
    rcases hy with hy | rfl
    · have := h.le y hy; omega
    · exact Nat.le_refl _, fun _ => by simp⟩
theorem low_eq {x : Int} {l : List Nat} {p k : Nat} (ha : ascB p l = true) (hk : k ≤ l.length) (h1 : ∀ i, i < k → ((l.getD i 0 : Nat) : Int) < x) (h2 : k < l.length → ¬ ((l.getD k 0 : Nat) : Int) < x) : lowI x l = k := by
  have hle := lowI_le x l
  have a1 : ¬ lowI x l < k := fun hlt => by
    have := (lowI_iff ha (show lowI x l < l.length by omega)).2 (h1 _ hlt)
    omega
  have a2 : ¬ k < lowI x l := fun hlt => h2 (by omega) ((lowI_iff ha (show k < l.length by omega)).1 hlt)
  omega
theorem fnd_eq {x : Int} {l : List Nat} {p k : Nat} (ha : ascB p l = true) (hk : k < l.length) (h1 : ∀ i, i < k → ((l.getD i 0 : Nat) : Int) < x) (h2 : x ≤ ((l.getD k 0 : Nat) : Int)) : fndI x l = some (l.getD k 0) := by
  rw [fnd_low, low_eq ha (Nat.le_of_lt hk) h1 (fun _ => by omega), if_pos hk]
theorem fnd_end {x : Int} {l : List Nat} (h : ∀ y ∈ l, (y : Int) < x) : fndI x l = none := fnd_none h
theorem getD_mem0 {l : List Nat} {j : Nat} (h : j < l.length) : l.getD j 0 ∈ l := by rw [List.getD_eq_getElem?_getD, List.getElem?_eq_getElem h]; exact List.getElem_mem h
theorem asc_2 {l : List Nat} {p i j : Nat} (ha : ascB p l = true) (hij : i < j) (hj : j < l.length) : l.getD i 0 < l.getD j 0 := by
  have e : l = l.take j ++ l.drop j := (List.take_append_drop j l).symm
  rw [e, asc_app] at ha
  refine ha.2.2 _ ?_ _ ?_
  · rw [List.getD_eq_getElem?_getD, List.getElem?_eq_getElem (show i < l.length by omega), Option.getD_some, List.mem_take_iff_getElem]
    exact ⟨i, by omega, rfl⟩
  · rw [List.getD_eq_getElem?_getD, List.getElem?_eq_getElem hj, Option.getD_some, List.drop_eq_getElem_cons hj]
    exact List.mem_cons_self ..
/-- Where the seek stands before id k. -/
def atK (l : List Nat) : Nat → Nat
  | 0 => 0
  | k + 1 => l.getD k 0 + 1
theorem atK_lt {l : List Nat} {p k : Nat} (ha : ascB p l = true) (hk : k ≤ l.length) : ∀ i, i < k → l.getD i 0 < atK l k := by
  intro i hi
  cases k with
  | zero => omega
  | succ k =>
    show l.getD i 0 < l.getD k 0 + 1
    by_cases h : i = k
    · subst h; omega
    · have := asc_2 ha (show i < k by omega) (by omega); omega
theorem atK_le {l : List Nat} {p k : Nat} (ha : ascB p l = true) (hk : k < l.length) : atK l k ≤ l.getD k 0 := by
  cases k with
  | zero => exact Nat.zero_le _
  | succ k =>
    show l.getD k 0 + 1 ≤ _
    have := asc_2 ha (show k < k + 1 by omega) hk; omega
/-- What the seek and the two looks at id k answer. -/
theorem seeks_at {l : List Nat} {k a y : Nat} (ha : ascB 0 l = true) (hk : k < l.length) (e1 : a = atK l k) (e2 : y = l.getD k 0) : a ≤ y ∧ fndI (a : Int) l = some y ∧ hasB (y : Int) l = true ∧ (a < y → hasB ((y : Int) - 1) l = false) := by
  subst e1; subst e2
  have h1 := atK_lt ha (Nat.le_of_lt hk)
  have h2 := atK_le ha hk
  have hy := getD_mem0 hk
  refine ⟨h2, fnd_eq ha hk (fun i hi => by have := h1 i hi; omega) (by omega), ?_, fun hlt => ?_⟩
  · unfold hasB; exact decide_eq_true ⟨_, hy, rfl⟩
  · rw [has_of ha, fnd_eq ha hk (fun i hi => by have := h1 i hi; omega) (by omega)]
    simp only [decide_eq_false_iff_not]
    omega
theorem seeks_end {l : List Nat} {a : Nat} (ha : ascB 0 l = true) (e : a = atK l l.length) : fndI (a : Int) l = none := by
  subst e
  refine fnd_end fun y hy => ?_
  obtain ⟨i, hi, e⟩ := List.getElem_of_mem hy
  have := atK_lt ha (Nat.le_refl _) i hi
  rw [List.getD_eq_getElem?_getD, List.getElem?_eq_getElem hi, Option.getD_some, e] at this
  omega
theorem seeks_none {l : List Nat} {m g : Nat} (h : As l m) (hn : fndI (g : Int) l = none) (hg : g ≤ m) : l.length = 0 := by
  cases l with
  | nil => rfl
  | cons b r => have := fnd_some hn m (h.last (by simp)); omega
theorem seeks_some {l : List Nat} {m g y : Nat} (h : As l m) (hn : fndI (g : Int) l = some y) : g ≤ m ∧ 0 < l.length ∧ g ≤ y := by
  obtain ⟨h1, h2, _⟩ := fnd_mem h.asc hn
  have := h.le y h1
  exact ⟨by omega, List.length_pos_of_mem h1, by omega⟩
set_option maxRecDepth 100000 in
set_option maxHeartbeats 3200000 in
theorem seeks_any (w : World) (A : Option Addr) (n c : Nat) (x : List Int) (from0 : Int) (r : Reads w w.heap.size 1 A n (x.map (Value.int .i64))) (hc : n ≤ c) (hm : c ≤ maxLen) :
    Calls Try.prog 5 #[.slice A n c, .int .i64 from0] w fun e w' => e = .returned (.bool true) ∧ Below w.heap.size w w' := by
  obtain ⟨i0, hi0, hz0, hz1, hz2⟩ := info_parts infoI
  have HR := Lib.hid r
  have hc9 : c ≤ 9223372036854775807 := by unfold maxLen at hm; omega
  clear r hm
  go_enter Try.func5, Try.ntmps5
  go_wp2
  go_loopw [5, 6, 7] (fun v s i wr => ∃ (j m : Nat) (V : Value), i = .int .i64 j ∧ s = .int .i64 m ∧ j ≤ n ∧ j ≤ 80 ∧ m ≤ 10 * j ∧ v = V ∧ Hid (∃ l, Mid wr w.heap.size 3 1 V j (ks .i64 (nb l)) ∧ Below w.heap.size w wr ∧ As l m ∧ l.length = j)) (fun _ _ i _ => 80 - (intOf i).toNat)
  case atStart => exact ⟨0, 0, _, rfl, rfl, Nat.zero_le _, Nat.zero_le _, Nat.zero_le _, rfl, Lib.hid ⟨[], Mid.nil _ _ _ _, Below.refl _ _, As.nil, rfl⟩⟩
  case round =>
    obtain ⟨j, m, V, rfl, rfl, hj, hj8, hm, hV, HI⟩ := hrel
    subst hV
    obtain ⟨l, hmid, hb, has, hlen⟩ := HI.out
    obtain ⟨A1, c1, e1⟩ := hmid.form
    subst e1
    have HM := Lib.hid hmid
    have HB := Lib.hid hb
    have HS := Lib.hid has
    have HLN := Lib.hid hlen
    clear HI hmid hb has hlen
    have k0 : (0 : Int) ≤ j := by omega
    by_cases hlt : j < n ∧ j < 80
    · obtain ⟨hlt1, hlt2⟩ := hlt
      obtain ⟨ad, u, rfl, hbl, hu, g0⟩ := HR.out.at_ hlt1
      rw [List.getElem?_map] at hu
      obtain ⟨z, hz⟩ : ∃ z, u = .int .i64 z := by
        cases hx : x[j]? with
        | none => rw [hx] at hu; simp at hu
        | some z => rw [hx] at hu; simp at hu; exact ⟨z, hu.symm⟩
      subst hz
      have g1 : wr.cell? (ad.add j) = some (.int .i64 z) := (HB.out.cell (p := ad.add j) (by rw [block_of_add]; exact hbl)).trans g0
      clear hu g0
      go_upto_region 7 with (first
        | (go_at_call 19; refine (within_nat z 9 (by omega) _).mono ?_; rintro e w2 ⟨g, rfl, hg, -, rfl⟩)
        | fail)
      obtain ⟨y, hy⟩ : ∃ y : Nat, y = m + 1 + g := ⟨_, rfl⟩
      rw [show (m : Int) + 1 + (g : Int) = (y : Int) from by omega]
      have hym : m < y := by omega
      have hyj : y ≤ 10 * (j + 1) := by omega
      clear hy hg
      go_wp2_with (first
        | (refine wpList_append_mid rfl (.tmp 38) (.tmp 40) 28 rfl w.heap.size 3 i0 _ 1 8 Try.underlying28 hi0 hz0 hz1 hz2 rfl (by omega) (.slice A1 j c1) _ _ rfl (HM.out.alloc_ _) ⟨wr.heap.size, 0, none⟩ 1 1 [.int .i64 (y : Int)] rfl rfl (World.news_of_block (cs := #[.int .i64 (y : Int)]) (t := 3) (fr := (0, 0)) (heap_alloc_new wr _)) (by simp [Value.oneCell']) (by unfold maxLen; omega) (by omega) (by have := HB.out.size; simp; omega) ?_
           intro v' w4 hmm hran
           have HMM := Lib.hid hmm
           have HRN := Lib.hid hran
           clear hmm hran)
        | fail)
      have HN : Hid (∃ l', Mid w4 w.heap.size 3 1 v' (j + 1) (ks .i64 (nb l')) ∧ Below w.heap.size w w4 ∧ As l' y ∧ l'.length = j + 1) := Lib.hid ⟨l ++ [y], by
        have := HMM.out
        rw [nb_append, ks_append]; exact this, (HB.out.trans ((below_alloc wr _).mono HB.out.size)).grown HRN.out.grown (by have := HB.out.size; simp; omega) (fun g hg => (HM.out.lt g hg).1), HS.out.snoc hym (by omega), by rw [List.length_append, HLN.out]; rfl⟩
      go_roundw
      case rel => exact ⟨j + 1, y, v', by go_num, rfl, by omega, by omega, by omega, rfl, HN⟩
      case measure => simp only [intOf]; omega
    · obtain ⟨L, hL⟩ : ∃ L, L = chunkL ((j + 15) / 16) l := ⟨_, rfl⟩
      have hfl : L.flatten = l := by rw [hL]; exact chunk_flat _ _ (by rw [HLN.out]; omega)
      have hRL : RL L := by rw [hL]; exact chunk_right (by rw [HLN.out]; omega) HS.out.asc
      have hLL : L.length ≤ 80 := by have := len_flat hRL; rw [hfl, HLN.out] at this; omega
      have HC : Hid (Calls Try.prog 10 #[.slice A1 j c1] wr (OfP L 0 F0 wr)) := Lib.hid (by rw [hL]; exact of_yes F0 wr (F0_lt _) A1 j c1 l HM.out.sk (by omega) HS.out.asc)
      obtain ⟨n3, hn3⟩ : ∃ n3, n3 = L.length := ⟨_, rfl⟩
      have hn9 : n3 ≤ 80 := by omega
      have HN3 := Lib.hid hn3
      have HFL := Lib.hid hfl
      have HRL := Lib.hid hRL
      clear hL hfl hRL hLL hn3
      have hcond : j < n ∧ ¬ j < 80 ∨ ¬ j < n := by omega
      rcases hcond with ⟨hlt1, hlt2⟩ | hlt1
      all_goals
        go_upto_region 9 with (first
          | (go_at_call 10; refine HC.out.mono ?_; rintro e w2 ⟨A2, c2, rfl, hb2, hp2⟩
             rw [← HN3.out] at hp2 ⊢
             have HB2 := Lib.hid (HB.out.trans (hb2.mono HB.out.size))
             have HSK := Lib.hid (HM.out.sk.on hb2)
             have HP2 : Hid (PLF w2 F0 A2 n3 c2 L) := Lib.hid hp2
             clear hb2 hp2)
          | fail)
        obtain ⟨W2, hW2⟩ : ∃ W2, W2 = w2.alloc (Obj.cells #[Value.slice A2 n3 c2] 24) := ⟨_, rfl⟩
        have HX : Hid (PBox A2 n3 c2 w2 W2) := Lib.hid (by rw [hW2]; exact PBox.new _ _ _ _)
        have p0 := HX.out.cell
        rw [← hW2]
        clear hW2
        go_upto_region 11 with (first
          | (go_at_call 15; refine (len_any A2 n3 c2 L W2 (HP2.out.on HX.out.bel).pl HRL.out (by omega)).mono ?_; rintro e w3 ⟨rfl, hb3⟩
             rw [HFL.out, HLN.out]
             have HX := Lib.hid (HX.out.on hb3)
             have p0 := HX.out.cell
             clear hb3)
          | fail)
        go_wp2
        go_loopw [10, 12, 13, 14, 58] (fun at_ _ _ _ i wr => ∃ (k a : Nat), i = .int .i64 k ∧ at_ = .int .i64 a ∧ k ≤ j ∧ a ≤ 1000 ∧ Hid (a = atK l k) ∧ Hid (PBox A2 n3 c2 w2 wr)) (fun _ _ _ _ i _ => j - (intOf i).toNat)
        case atStart => exact ⟨0, 0, rfl, rfl, Nat.zero_le _, Nat.zero_le _, Lib.hid rfl, HX⟩
        case round =>
          obtain ⟨k, a, rfl, rfl, hk, ha9, HA, HY⟩ := hrel
          have q0 := HY.out.cell
          have k0 : (0 : Int) ≤ k := by omega
          by_cases hkj : k < j
          · obtain ⟨ad', e', g0⟩ := (HSK.out.below HY.out.bel).2.2.2.kat hkj
            subst e'
            have hkl : k < l.length := by rw [HLN.out]; exact hkj
            rw [nb_get hkl] at g0
            obtain ⟨y, hy⟩ : ∃ y, y = l.getD k 0 := ⟨_, rfl⟩
            rw [← hy] at g0
            have k1 : (k : Int) < j := by omega
            obtain ⟨hay, hf, hh, hg⟩ := seeks_at HS.out.asc hkl HA.out hy
            have hy9 : y ≤ 800 := by have := HS.out.le y (by rw [hy]; exact getD_mem0 hkl); omega
            have HF := Lib.hid hf
            have HH := Lib.hid hh
            have HAY : Hid (y + 1 = atK l (k + 1)) := Lib.hid (by rw [hy]; rfl)
            clear hf hh hy hkl
            by_cases hlt : a < y
            · have HG := Lib.hid (hg hlt)
              clear hg
              go_upto_region 18 with (first
                | (go_at_call 21; have _ := HG1; refine (has_any A2 n3 c2 L _ _ (HP2.out.on HY.out.bel).pl HRL.out (by omega)).mono ?_; rw [HFL.out, HG.out]; rintro e w7 ⟨rfl, hb7⟩
                   have HY := Lib.hid (HY.out.on hb7)
                   have q0 := HY.out.cell
                   clear hb7)
                | (go_at_call 21; refine (has_any A2 n3 c2 L _ _ (HP2.out.on HY.out.bel).pl HRL.out (by omega)).mono ?_; rw [HFL.out, HH.out]; rintro e w7 ⟨rfl, hb7⟩
                   have HY := Lib.hid (HY.out.on hb7)
                   have q0 := HY.out.cell
                   have HG1 := HH
                   clear hb7)
                | (go_at_call 20; refine (seek_any A2 n3 c2 L _ _ (HP2.out.on HY.out.bel).pl HRL.out (by omega)).mono ?_; rw [HFL.out, HF.out]; rintro e w5 ⟨rfl, hb5⟩; have HY := Lib.hid (HY.out.on hb5); have q0 := HY.out.cell; clear hb5)
                | fail)
              go_wp2
              go_roundw
              case rel => exact ⟨k + 1, y + 1, by go_num, by go_num, by omega, by omega, HAY, HY⟩
              case measure => simp only [intOf]; omega
            · clear hg
              obtain rfl : a = y := by omega
              go_upto_region 18 with (first
                | (go_at_call 21; refine (has_any A2 n3 c2 L _ _ (HP2.out.on HY.out.bel).pl HRL.out (by omega)).mono ?_; rw [HFL.out, HH.out]; rintro e w7 ⟨rfl, hb7⟩
                   have HY := Lib.hid (HY.out.on hb7)
                   have q0 := HY.out.cell
                   clear hb7)
                | (go_at_call 20; refine (seek_any A2 n3 c2 L _ _ (HP2.out.on HY.out.bel).pl HRL.out (by omega)).mono ?_; rw [HFL.out, HF.out]; rintro e w5 ⟨rfl, hb5⟩; have HY := Lib.hid (HY.out.on hb5); have q0 := HY.out.cell; clear hb5)
                | fail)
              go_wp2
              go_roundw
              case rel => exact ⟨k + 1, a + 1, by go_num, by go_num, by omega, by omega, HAY, HY⟩
              case measure => simp only [intOf]; omega
          · obtain rfl : k = j := by omega
            have HE : Hid (fndI (a : Int) l = none) := Lib.hid (seeks_end HS.out.asc (by rw [HLN.out]; exact HA.out))
            go_upto_region 22 with (first
              | (go_at_call 20; refine (seek_any A2 n3 c2 L _ _ (HP2.out.on HY.out.bel).pl HRL.out (by omega)).mono ?_; rw [HFL.out, HE.out]; rintro e w5 ⟨rfl, hb5⟩; have HY := Lib.hid (HY.out.on hb5); have q0 := HY.out.cell; clear hb5)
              | (go_at_call 19; refine (within_add from0 m 5 (by omega) _).mono ?_; rintro e w6 ⟨g, rfl, hg, rfl⟩)
              | fail)
            cases hfg : fndI (g : Int) l with
            | none =>
              have HFG := Lib.hid hfg
              by_cases hgm : g ≤ m
              · have hj0 := seeks_none HS.out hfg hgm
                rw [HLN.out] at hj0
                have hj1 : ¬ (k : Int) > 0 := by omega
                clear hfg
                go_wp2_with (first
                  | (go_at_call 20; refine (seek_any A2 n3 c2 L _ _ (HP2.out.on HY.out.bel).pl HRL.out (by omega)).mono ?_; rw [HFL.out, HFG.out]; rintro e w5 ⟨rfl, hb5⟩; have HY := Lib.hid (HY.out.on hb5); have q0 := HY.out.cell; clear hb5)
                  | (go_at_call 3; refine (runs_any _).mono ?_; rintro e w8 ⟨rfl, hb8⟩; have HB8 := Lib.hid hb8; clear hb8)
                  | fail)
                go_ret
                exact ⟨rfl, HB2.out.trans ((HY.out.on HB8.out).bel.mono HB2.out.size)⟩
              · have hgm' : ¬ (g : Int) ≤ m := by omega
                clear hfg
                go_wp2_with (first
                  | (go_at_call 20; refine (seek_any A2 n3 c2 L _ _ (HP2.out.on HY.out.bel).pl HRL.out (by omega)).mono ?_; rw [HFL.out, HFG.out]; rintro e w5 ⟨rfl, hb5⟩; have HY := Lib.hid (HY.out.on hb5); have q0 := HY.out.cell; clear hb5)
                  | (go_at_call 3; refine (runs_any _).mono ?_; rintro e w8 ⟨rfl, hb8⟩; have HB8 := Lib.hid hb8; clear hb8)
                  | fail)
                go_ret
                exact ⟨rfl, HB2.out.trans ((HY.out.on HB8.out).bel.mono HB2.out.size)⟩
            | some y =>
              have HFG := Lib.hid hfg
              obtain ⟨h1, h2, h3⟩ := seeks_some HS.out hfg
              rw [HLN.out] at h2
              have hg1 : (g : Int) ≤ m := by omega
              have hg2 : (k : Int) > 0 := by omega
              have hg3 : (y : Int) ≥ g := by omega
              clear hfg
              go_wp2_with (first
                | (go_at_call 20; refine (seek_any A2 n3 c2 L _ _ (HP2.out.on HY.out.bel).pl HRL.out (by omega)).mono ?_; rw [HFL.out, HFG.out]; rintro e w5 ⟨rfl, hb5⟩; have HY := Lib.hid (HY.out.on hb5); have q0 := HY.out.cell; clear hb5)
                | (go_at_call 3; refine (runs_any _).mono ?_; rintro e w8 ⟨rfl, hb8⟩; have HB8 := Lib.hid hb8; clear hb8)
                | fail)
              go_ret
              exact ⟨rfl, HB2.out.trans ((HY.out.on HB8.out).bel.mono HB2.out.size)⟩
end Go.Proofs.Ytokjeglhmmijfaa
