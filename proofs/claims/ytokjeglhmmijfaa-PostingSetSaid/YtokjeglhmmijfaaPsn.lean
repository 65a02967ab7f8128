/-
  PostingStays; conditions: lengths.
-/
import Derived.Test.YtokjeglhmmijfaaPsk
import Derived.Test.YtokjeglhmmijfaaFr
namespace Go.Proofs.Ytokjeglhmmijfaa
open Go.RowKit Go.WideShapes Go.ChangeShapes
set_option linter.all false
def YesOrNo (w : World) (e : Ending) (w' : World) : Prop := ∃ L' ok, RL L' ∧ L'.length ≤ 1000 ∧ AddP F0 L' ok w e w'
theorem add_all (w : World) (A : Option Addr) (n c : Nat) (L : List (List Nat)) (y : Nat) (h : PLF w F0 A n c L) (hR : RL L) (hf : L.flatten.length ≤ 900) (hy : y ≤ 1073741824) :
    Calls Try.prog 12 #[plV A n c, .int .i64 (y : Int)] w (YesOrNo w) := by
  have hl := len_flat hR
  have hn := h.len
  by_cases hm : y ∈ L.flatten
  · refine (add_no F0 A n c L y w h hR (by omega) (.inr ?_)).mono fun e w' he => ⟨L, false, hR, by omega, he⟩
    unfold hasB; exact decide_eq_true ⟨y, hm, rfl⟩
  · refine (add_yes w F0 (F0_lt _) A n c L y h hR (by omega) hy hm).mono fun e w' he => ⟨addL y L, true, add_right hR hy hm, ?_, he⟩
    obtain ⟨a, b, e1, e2, _⟩ := add_parts hR hy hm
    have := len_flat (add_right hR hy hm)
    rw [e2] at this
    rw [e1] at hf
    simp at this hf ⊢; omega
theorem rem_all (w : World) (A : Option Addr) (n c : Nat) (L : List (List Nat)) (y : Nat) (h : PLF w F0 A n c L) (hR : RL L) (hf : L.flatten.length ≤ 900) :
    Calls Try.prog 13 #[plV A n c, .int .i64 (y : Int)] w (YesOrNo w) := by
  have hl := len_flat hR
  have hn := h.len
  by_cases hm : y ∈ L.flatten
  · have hh : hasB (y : Int) L.flatten = true := by unfold hasB; exact decide_eq_true ⟨y, hm, rfl⟩
    refine (rem_yes w F0 (F0_lt _) A n c L y h hR (by omega) hh).mono fun e w' he => ⟨remL y L, true, rem_right hR hm, ?_, he⟩
    obtain ⟨a, b, e1, e2⟩ := rem_parts hR hm
    have := len_flat (rem_right hR hm)
    rw [e2] at this
    rw [e1] at hf
    simp at this hf ⊢; omega
  · exact (rem_no F0 A n c L y w h hR (by omega) (has_of_not hm)).mono fun e w' he => ⟨L, false, hR, by omega, he⟩
/-- A row of numbers that may be written. -/
def Wr (w : World) (N : Nat) (A : Option Addr) (n : Nat) : Prop := ∀ k, k < n → ∃ g o cur, A = some ⟨g, o, none⟩ ∧ N ≤ g ∧ w.heap[g]? = some (.cells cur 3 (0, 0)) ∧ o + k < cur.size
theorem Wr.of {w : World} {N n c : Nat} {A : Option Addr} {xs : List Value} (h : Mid w N 3 1 (.slice A n c) n xs) : Wr w N A n := by
  intro k hk
  rcases h.2 with ⟨h', h0⟩ | ⟨g, off, cap, cur, h', hg, hh, h1, _, h2, _⟩
  · omega
  · simp only [Value.slice.injEq] at h'
    exact ⟨g, off, cur, h'.1, hg, hh, by omega⟩
theorem Wr.put {w : World} {N n b i : Nat} {A : Option Addr} (h : Wr w N A n) (u : Value) : Wr (w.setCell ⟨b, i, none⟩ u) N A n := by
  intro k hk
  obtain ⟨g, o, cur, e, hg, hh, hs⟩ := h k hk
  by_cases hb : g = b
  · subst hb
    exact ⟨g, o, _, e, hg, heap_setCell_same w g i cur 3 u hh, by simpa using hs⟩
  · exact ⟨g, o, cur, e, hg, (heap_setCell_other w _ g u hb).trans hh, hs⟩
/-- Rows scribbled over behind world W. -/
structure Sc (W : World) (own : List Ar) (wr : World) : Prop where
  bel : Below W.heap.size W wr
  wr : ∀ e ∈ own, Wr wr W.heap.size e.A e.n
theorem Sc.put {W wr : World} {own : List Ar} {e : Ar} {k : Nat} (h : Sc W own wr) (he : e ∈ own) (hk : k < e.n) (u : Value) :
    ∃ ad v, e.A = some ad ∧ wr.cell? (ad.add k) = some v ∧ wr.frozen? (ad.add k) = false ∧ Sc W own (wr.setCell (ad.add k) u) := by
  obtain ⟨g, o, cur, e1, hg, hh, hs⟩ := h.wr e he k hk
  have ea : (⟨g, o, none⟩ : Addr).add k = ⟨g, o + k, none⟩ := by
    unfold Addr.add
    split
    · rename_i h0; subst h0; rfl
    · rfl
  refine ⟨⟨g, o, none⟩, cur[o + k], e1, by rw [ea, cell_of hh, Array.getElem?_eq_getElem hs], by rw [ea, frozen_of hh], ?_, ?_⟩
  · exact h.bel.setCell (by rw [ea]; exact hg) u
  · intro e' he'
    rw [ea]; exact (h.wr e' he').put u
/-- Lists laid anew, scribbled over; their row stands. -/
structure Sb (W : World) (V : Value) (own : List Ar) (wr : World) : Prop where
  sc : Sc W own wr
  row : Mid wr W.heap.size 28 1 V own.length (own.map Ar.v)
theorem Sb.put {W wr : World} {V : Value} {own : List Ar} {e : Ar} {k : Nat} (h : Sb W V own wr) (he : e ∈ own) (hk : k < e.n) (u : Value) :
    ∃ ad v, e.A = some ad ∧ wr.cell? (ad.add k) = some v ∧ wr.frozen? (ad.add k) = false ∧ Sb W V own (wr.setCell (ad.add k) u) := by
  obtain ⟨g, o, cur, e1, hg, hh, hs⟩ := h.sc.wr e he k hk
  obtain ⟨ad, v, a1, a2, a3, a4⟩ := h.sc.put he hk u
  refine ⟨ad, v, a1, a2, a3, a4, h.row.same fun g' hg' => ?_⟩
  rw [e1] at a1
  obtain rfl := Option.some.inj a1
  refine heap_setCell_other _ _ _ _ ?_
  rw [block_of_add]
  intro hgg
  have hgg : g' = g := hgg
  have hrow := h.row
  rcases hrow.2 with ⟨h', _⟩ | ⟨g1, o1, c1, cur1, h', _, hh1, _⟩
  · subst h'; cases hg'
  · subst h'
    have e2 : g1 = g' := by simpa [Value.ownBlock] using hg'
    rw [e2, hgg, hh] at hh1
    have hh := hh1.symm
    injection hh with hh
    injection hh with _ ht
    cases ht
theorem Sb.of {W w' : World} {V : Value} {own : List Ar} (hb : Below W.heap.size W w') (h : OO w' W.heap.size V own) : Sb W V own w' :=
  ⟨⟨hb, fun e he => Wr.of (h.els e he)⟩, h.row⟩
theorem Sb.at_ {W wr : World} {own : List Ar} {A : Option Addr} {n c j : Nat} (h : Sb W (.slice A n c) own wr) (hn : own.length = n) (hj : j < n) : ∃ ad, A = some ad ∧ wr.cell? (ad.add j) = some (own.getD j dA).v ∧ own.getD j dA ∈ own := by
  have hr := h.row
  rw [hn] at hr
  obtain ⟨ad, u, e, _, hu, hc⟩ := hr.readsv.at_ hj
  have hjl : j < own.length := by omega
  rw [List.getElem?_map, List.getElem?_eq_getElem hjl] at hu
  injection hu with hu
  have e1 : own.getD j dA = own[j] := by rw [List.getD_eq_getElem?_getD, List.getElem?_eq_getElem hjl]; rfl
  exact ⟨ad, e, by rw [hc, e1, hu], by rw [e1]; exact List.getElem_mem hjl⟩
theorem stays_snoc {l : List Nat} {j g : Nat} (ha : ascB 0 l = true) (hl : ∀ y ∈ l, y < 3 * j) (hg : g ≤ 2) (hj : j ≤ 100) : ascB 0 (l ++ [3 * j + g]) = true ∧ ∀ y ∈ l ++ [3 * j + g], y < 3 * (j + 1) := by
  refine ⟨?_, fun y hy => ?_⟩
  · rw [asc_app]
    refine ⟨ha, by unfold ascB; simp [ascB]; omega, fun x hx y hy => ?_⟩
    rw [List.mem_singleton] at hy; have := hl x hx; omega
  · rw [List.mem_append, List.mem_singleton] at hy
    rcases hy with hy | rfl
    · have := hl y hy; omega
    · omega
set_option maxRecDepth 100000 in
set_option maxHeartbeats 3200000 in
theorem stays_any (w : World) (A : Option Addr) (n c : Nat) (x : List Int) (A' : Option Addr) (n' c' : Nat) (F : Nat → Nat → Int) (r : Reads w w.heap.size 1 A n (x.map (Value.int .i64))) (hc : n ≤ c) (hm : c ≤ maxLen) (r' : Recs w A' n' 3 F) (hc' : n' ≤ c') (hm' : c' ≤ maxLen) :
    Calls Try.prog 6 #[.slice A n c, .slice A' n' c'] w fun e w' => e = .returned (.bool true) ∧ Below w.heap.size w w' := by
  obtain ⟨i0, hi0, hz0, hz1, hz2⟩ := info_parts infoI
  have HR := Lib.hid r
  have HR' := Lib.hid r'
  have hc9 : c ≤ 9223372036854775807 := by unfold maxLen at hm; omega
  have hc9' : c' ≤ 9223372036854775807 := by unfold maxLen at hm'; omega
  clear r hm r' hm'
  go_enter Try.func6, Try.ntmps6
  go_wp2
  go_loopw [5, 6] (fun v i wr => ∃ (j : Nat) (V : Value), i = .int .i64 j ∧ j ≤ n ∧ j ≤ 60 ∧ v = V ∧ Hid (∃ l, Mid wr w.heap.size 3 1 V j (ks .i64 (nb l)) ∧ Below w.heap.size w wr ∧ ascB 0 l = true ∧ (∀ y ∈ l, y < 3 * j) ∧ l.length = j)) (fun _ i _ => 60 - (intOf i).toNat)
  case atStart => exact ⟨0, _, rfl, Nat.zero_le _, Nat.zero_le _, rfl, Lib.hid ⟨[], Mid.nil _ _ _ _, Below.refl _ _, rfl, by simp, rfl⟩⟩
  case round =>
    obtain ⟨j, V, rfl, hj, hj6, hV, HI⟩ := hrel
    subst hV
    obtain ⟨l, hmid, hb, has, hle, hlen⟩ := HI.out
    obtain ⟨A1, c1, e1⟩ := hmid.form
    subst e1
    have HM := Lib.hid hmid
    have HB := Lib.hid hb
    have HS := Lib.hid has
    have HLE := Lib.hid hle
    have HLN := Lib.hid hlen
    clear HI hmid hb has hlen hle
    have k0 : (0 : Int) ≤ j := by omega
    by_cases hlt : j < n ∧ j < 60
    · obtain ⟨hlt1, hlt2⟩ := hlt
      obtain ⟨ad, u, rfl, hbl, hu, g0⟩ := HR.out.at_ hlt1
      rw [List.getElem?_map] at hu
      obtain ⟨z, hz⟩ : ∃ z, u = .int .i64 z := by
        cases hx : x[j]? with
        | none => rw [hx] at hu; simp at hu
        | some z => rw [hx] at hu; simp at hu; exact ⟨z, hu.symm⟩
      subst hz
      have g1 : wr.cell? (ad.add j) = some (.int .i64 z) := (HB.out.cell (p := ad.add j) (by rw [block_of_add]; exact hbl)).trans g0
      clear hu g0
      go_wp2_with (first
        | (go_at_call 19; refine (within_nat z 2 (by omega) _).mono ?_; rintro e w2 ⟨g, rfl, hg, -, rfl⟩)
        | (refine wpList_append_mid rfl (.tmp 33) (.tmp 42) 28 rfl w.heap.size 3 i0 _ 1 8 Try.underlying28 hi0 hz0 hz1 hz2 rfl (by omega) (.slice A1 j c1) _ _ rfl (HM.out.alloc_ _) ⟨wr.heap.size, 0, none⟩ 1 1 [_] rfl rfl (World.news_of_block (cs := #[_]) (t := 3) (fr := (0, 0)) (heap_alloc_new wr _)) (by simp [Value.oneCell']) (by unfold maxLen; omega) (by omega) (by have := HB.out.size; simp; omega) ?_
           intro v' w4 hmm hran
           have HMM := Lib.hid hmm
           have HRN := Lib.hid hran
           clear hmm hran)
        | fail)
      have HN : Hid (∃ l', Mid w4 w.heap.size 3 1 v' (j + 1) (ks .i64 (nb l')) ∧ Below w.heap.size w w4 ∧ ascB 0 l' = true ∧ (∀ y ∈ l', y < 3 * (j + 1)) ∧ l'.length = j + 1) := Lib.hid ⟨l ++ [3 * j + g], by
        have := HMM.out
        rw [show 3 * (j : Int) + (g : Int) = ((3 * j + g : Nat) : Int) from by omega] at this
        rw [nb_append, ks_append]; exact this, (HB.out.trans ((below_alloc wr _).mono HB.out.size)).grown HRN.out.grown (by have := HB.out.size; simp; omega) (fun g hg => (HM.out.lt g hg).1), (stays_snoc HS.out HLE.out hg (by omega)).1, (stays_snoc HS.out HLE.out hg (by omega)).2, by rw [List.length_append, HLN.out]; rfl⟩
      go_roundw
      case rel => exact ⟨j + 1, v', by go_num, by omega, by omega, rfl, HN⟩
      case measure => simp only [intOf]; omega
    · obtain ⟨L, hL⟩ : ∃ L, L = chunkL ((j + 15) / 16) l := ⟨_, rfl⟩
      have hfl : L.flatten = l := by rw [hL]; exact chunk_flat _ _ (by rw [HLN.out]; omega)
      have hRL : RL L := by rw [hL]; exact chunk_right (by rw [HLN.out]; omega) HS.out
      have hF9 : L.flatten.length ≤ 900 := by rw [hfl, HLN.out]; omega
      have hLL : L.length ≤ 80 := by have := len_flat hRL; rw [hfl, HLN.out] at this; omega
      have HC : Hid (Calls Try.prog 10 #[.slice A1 j c1] wr (OfP L 0 F0 wr)) := Lib.hid (by rw [hL]; exact of_yes F0 wr (F0_lt _) A1 j c1 l HM.out.sk (by omega) HS.out)
      obtain ⟨n3, hn3⟩ : ∃ n3, n3 = L.length := ⟨_, rfl⟩
      have hn9 : n3 ≤ 80 := by omega
      have HN3 := Lib.hid hn3
      have HFL := Lib.hid hfl
      have HRL := Lib.hid hRL
      have HF9 := Lib.hid hF9
      clear hL hfl hRL hLL hn3 hF9
      have hcond : j < n ∧ ¬ j < 60 ∨ ¬ j < n := by omega
      rcases hcond with ⟨hlt1, hlt2⟩ | hlt1
      all_goals
        go_upto_region 7 with (first
          | (go_at_call 10; refine HC.out.mono ?_; rintro e w2 ⟨A2, c2, rfl, hb2, hp2⟩
             rw [← HN3.out] at hp2 ⊢
             have HB2 := Lib.hid (HB.out.trans (hb2.mono HB.out.size))
             have HSK := Lib.hid (HM.out.sk.on hb2)
             have HP2 : Hid (PLF w2 F0 A2 n3 c2 L) := Lib.hid hp2
             clear hb2 hp2)
          | fail)
        obtain ⟨W2, hW2⟩ : ∃ W2, W2 = w2.alloc (Obj.cells #[Value.slice A2 n3 c2] 24) := ⟨_, rfl⟩
        have HX : Hid (PBox A2 n3 c2 w2 W2) := Lib.hid (by rw [hW2]; exact PBox.new _ _ _ _)
        rw [← hW2]
        clear hW2
        go_wp2
        go_loopw [9] (fun i wr => ∃ k : Nat, i = .int .i64 k ∧ k ≤ 40 ∧ Hid (PBox A2 n3 c2 w2 wr)) (fun i _ => 40 - (intOf i).toNat)
        case atStart => exact ⟨0, rfl, Nat.zero_le _, HX⟩
        case round =>
          obtain ⟨k, rfl, hk, HY⟩ := hrel
          have q0 := HY.out.cell
          have k0' : (0 : Int) ≤ k := by omega
          by_cases hkn : k < n' ∧ k < 40
          · obtain ⟨hk1, hk2⟩ := hkn
            obtain ⟨ad', rfl, hbl', hcl⟩ := HR'.out k hk1
            have g1 : wr.cell? (ad'.add (k * 3 + 1)) = some (.int .i64 (F k 1)) := ((HB2.out.trans (HY.out.bel.mono HB2.out.size)).cell (p := ad'.add (k * 3 + 1)) (by rw [block_of_add]; exact hbl')).trans (hcl 1 (by omega))
            have e2 : (⟨(ad'.add (k * 3)).block, (ad'.add (k * 3)).off + 1, none⟩ : Addr) = (ad'.add (k * 3)).add 1 := rfl
            have g2 : wr.cell? ⟨(ad'.add (k * 3)).block, (ad'.add (k * 3)).off + 1, none⟩ = some (.int .i64 (F k 1)) := by rw [e2, add_of_add]; exact g1
            clear e2
            clear hcl
            go_upto_region 13 with (first
              | (go_at_call 19; refine (within_nat _ 200 (by omega) _).mono ?_; rintro e w4 ⟨g, rfl, hg, -, rfl⟩)
              | fail)
            clear g1 g2
            go_upto_region 14 with (first
              | (go_at_call 12; refine (add_all _ A2 n3 c2 L g (HP2.out.on HY.out.bel) HRL.out HF9.out (by omega)).mono ?_; rintro e w4 ⟨L4, ok4, hr4, hl4, A4, c4, rfl, hb4, hp4⟩
                 obtain ⟨n4, hn4⟩ : ∃ n4, n4 = L4.length := ⟨_, rfl⟩
                 rw [← hn4] at hp4 hl4 ⊢
                 have HY := Lib.hid (HY.out.on hb4)
                 have HP4 := Lib.hid hp4
                 have HR4 := Lib.hid hr4
                 have HN4 := Lib.hid hn4
                 clear hb4 hp4 hr4 hn4)
              | fail)
            obtain ⟨W5, hW5⟩ : ∃ W5, W5 = w4.alloc (Obj.cells #[Value.slice A4 n4 c4] 24) := ⟨_, rfl⟩
            have HZ : Hid (PBox A4 n4 c4 w4 W5) := Lib.hid (by rw [hW5]; exact PBox.new _ _ _ _)
            have HY : Hid (PBox A2 n3 c2 w2 W5) := Lib.hid (HY.out.on (by rw [hW5]; exact below_alloc _ _))
            have q0 := HY.out.cell
            rw [← hW5]
            clear hW5
            go_upto_region 15 with (first
              | (go_at_call 13; refine (rem_all _ A2 n3 c2 L g (HP2.out.on HY.out.bel) HRL.out HF9.out).mono ?_; rintro e w6 ⟨L6, ok6, hr6, hl6, A6, c6, rfl, hb6, hp6⟩
                 obtain ⟨n6, hn6⟩ : ∃ n6, n6 = L6.length := ⟨_, rfl⟩
                 rw [← hn6] at hp6 hl6 ⊢
                 have HY := Lib.hid (HY.out.on hb6)
                 have HZ := Lib.hid (HZ.out.on hb6)
                 have HP6 := Lib.hid hp6
                 have HR6 := Lib.hid hr6
                 have HN6 := Lib.hid hn6
                 clear hb6 hp6 hr6 hn6)
              | fail)
            obtain ⟨W7, hW7⟩ : ∃ W7, W7 = w6.alloc (Obj.cells #[Value.slice A6 n6 c6] 24) := ⟨_, rfl⟩
            have HV : Hid (PBox A6 n6 c6 w6 W7) := Lib.hid (by rw [hW7]; exact PBox.new _ _ _ _)
            have HY : Hid (PBox A2 n3 c2 w2 W7) := Lib.hid (HY.out.on (by rw [hW7]; exact below_alloc _ _))
            have HZ : Hid (PBox A4 n4 c4 w4 W7) := Lib.hid (HZ.out.on (by rw [hW7]; exact below_alloc _ _))
            have q1 := HZ.out.cell
            rw [← hW7]
            clear hW7 q0
            clear q1
            have q1 := HZ.out.cell
            go_wp2_with (first
              | (go_at_call 16; refine (blocks_any A4 n4 c4 L4 W7 (HP4.out.on HZ.out.bel).pl HR4.out (by omega)).mono ?_; rintro e x1 ⟨B1, d1, own1, rfl, hb1, ho1, hm1⟩
                 rw [← HN4.out] at ho1 ⊢
                 have HS1 := Lib.hid (Sb.of hb1 ho1)
                 have HL1 : Hid (own1.length = n4) := Lib.hid (by have := congrArg List.length hm1; rw [List.length_map, List.length_map, ← HN4.out] at this; exact this)
                 have HQ1 : Hid (∀ e ∈ own1, e.n ≤ maxLen) := Lib.hid (fun e he => by have := (ho1.els e he).caps; omega)
                 clear hb1 ho1 hm1)
              | fail)
            clear q1
            go_loopw [82] (fun i v1 => ∃ a : Nat, i = .int .i64 a ∧ a ≤ n4 ∧ Hid (Sb W7 (.slice B1 n4 d1) own1 v1)) (fun i _ => n4 - (intOf i).toNat)
            case atStart => exact ⟨0, rfl, Nat.zero_le _, HS1⟩
            case round =>
              obtain ⟨a, rfl, ha, HT⟩ := hrel
              have a0 : (0 : Int) ≤ a := by omega
              by_cases han : a < n4
              · obtain ⟨ad, e1, g5, hmem⟩ := HT.out.at_ HL1.out han
                subst e1
                obtain ⟨e9, he9⟩ : ∃ e9, e9 = own1.getD a dA := ⟨_, rfl⟩
                rw [← he9] at g5 hmem
                have hcap := HQ1.out _ hmem
                obtain ⟨E1, m1, de, le⟩ := e9
                replace g5 : _ = some (Value.slice E1 m1 de) := g5
                have hcap : m1 ≤ 9223372036854775807 := by have : m1 ≤ maxLen := hcap; unfold maxLen at this; omega
                have HME := Lib.hid hmem
                clear he9 hmem
                have a1 : (a : Int) < n4 := by omega
                go_wp2
                go_loopw [88] (fun i v1 => ∃ b : Nat, i = .int .i64 b ∧ b ≤ m1 ∧ Hid (Sb W7 (.slice (some ad) n4 d1) own1 v1)) (fun i _ => m1 - (intOf i).toNat)
                case atStart => exact ⟨0, rfl, Nat.zero_le _, HT⟩
                case round =>
                  obtain ⟨b, rfl, hb, HU⟩ := hrel
                  have b0 : (0 : Int) ≤ b := by omega
                  by_cases hbm : b < m1
                  · obtain ⟨ad2, v, e2, g6, f6, hs6⟩ := HU.out.put HME.out (show b < (⟨E1, m1, de, le⟩ : Ar).n from hbm) (.int .i64 (-1))
                    have e2 : E1 = some ad2 := e2
                    subst e2
                    have HS6 := Lib.hid hs6
                    clear hs6
                    go_wp2
                    go_roundw
                    case rel => exact ⟨b + 1, by go_num, by omega, HS6⟩
                    case measure => simp only [intOf]; omega
                  · obtain rfl : m1 = b := by omega
                    go_wp2
                    go_roundw
                    case rel => exact ⟨a + 1, by go_num, by omega, HU⟩
                    case measure => simp only [intOf]; omega
              · obtain rfl : n4 = a := by omega
                obtain ⟨W8, rfl⟩ : ∃ W8 : World, W8 = wr := ⟨_, rfl⟩
                have HY := Lib.hid (HY.out.on HT.out.sc.bel)
                have HV := Lib.hid (HV.out.on HT.out.sc.bel)
                have q2 := HY.out.cell
                go_wp2_with (first
                  | (go_at_call 16; refine (blocks_any A2 n3 c2 L W8 (HP2.out.on HY.out.bel).pl HRL.out (by omega)).mono ?_; rintro e x2 ⟨B2, d2, own2, rfl, hb2, ho2, hm2⟩
                     rw [← HN3.out] at ho2 ⊢
                     have HS2 := Lib.hid (Sb.of hb2 ho2)
                     have HL2 : Hid (own2.length = n3) := Lib.hid (by have := congrArg List.length hm2; rw [List.length_map, List.length_map, ← HN3.out] at this; exact this)
                     have HQ2 : Hid (∀ e ∈ own2, e.n ≤ maxLen) := Lib.hid (fun e he => by have := (ho2.els e he).caps; omega)
                     clear hb2 ho2 hm2)
                  | fail)
                clear q2
                go_loopw [99] (fun i v1 => ∃ a : Nat, i = .int .i64 a ∧ a ≤ n3 ∧ Hid (Sb W8 (.slice B2 n3 d2) own2 v1)) (fun i _ => n3 - (intOf i).toNat)
                case atStart => exact ⟨0, rfl, Nat.zero_le _, HS2⟩
                case round =>
                  obtain ⟨a, rfl, ha, HT⟩ := hrel
                  have a0 : (0 : Int) ≤ a := by omega
                  by_cases han : a < n3
                  · obtain ⟨ad, e1, g5, hmem⟩ := HT.out.at_ HL2.out han
                    subst e1
                    obtain ⟨e9, he9⟩ : ∃ e9, e9 = own2.getD a dA := ⟨_, rfl⟩
                    rw [← he9] at g5 hmem
                    have hcap := HQ2.out _ hmem
                    obtain ⟨E1, m1, de, le⟩ := e9
                    replace g5 : _ = some (Value.slice E1 m1 de) := g5
                    have hcap : m1 ≤ 9223372036854775807 := by have : m1 ≤ maxLen := hcap; unfold maxLen at this; omega
                    have HME := Lib.hid hmem
                    clear he9 hmem
                    have a1 : (a : Int) < n3 := by omega
                    go_wp2
                    go_loopw [105] (fun i v1 => ∃ b : Nat, i = .int .i64 b ∧ b ≤ m1 ∧ Hid (Sb W8 (.slice (some ad) n3 d2) own2 v1)) (fun i _ => m1 - (intOf i).toNat)
                    case atStart => exact ⟨0, rfl, Nat.zero_le _, HT⟩
                    case round =>
                      obtain ⟨b, rfl, hb, HU⟩ := hrel
                      have b0 : (0 : Int) ≤ b := by omega
                      by_cases hbm : b < m1
                      · obtain ⟨ad2, v, e2, g6, f6, hs6⟩ := HU.out.put HME.out (show b < (⟨E1, m1, de, le⟩ : Ar).n from hbm) (.int .i64 (-2))
                        have e2 : E1 = some ad2 := e2
                        subst e2
                        have HS6 := Lib.hid hs6
                        clear hs6
                        go_wp2
                        go_roundw
                        case rel => exact ⟨b + 1, by go_num, by omega, HS6⟩
                        case measure => simp only [intOf]; omega
                      · obtain rfl : m1 = b := by omega
                        go_wp2
                        go_roundw
                        case rel => exact ⟨a + 1, by go_num, by omega, HU⟩
                        case measure => simp only [intOf]; omega
                  · obtain rfl : n3 = a := by omega
                    obtain ⟨W9, rfl⟩ : ∃ W9 : World, W9 = wr := ⟨_, rfl⟩
                    have HY := Lib.hid (HY.out.on HT.out.sc.bel)
                    have HV := Lib.hid (HV.out.on HT.out.sc.bel)
                    have q3 := HV.out.cell
                    go_wp2_with (first
                      | (go_at_call 18; refine (ids_any A6 n6 c6 L6 W9 (HP6.out.on HV.out.bel).pl HR6.out (by omega)).mono ?_; rintro e x3 ⟨B3, d3, rfl, hb3, hm3⟩
                         obtain ⟨m3, hm3'⟩ : ∃ m3, m3 = L6.flatten.length := ⟨_, rfl⟩
                         rw [← hm3'] at hm3 ⊢
                         have HC3 := Lib.hid hm3.caps
                         have HS3 : Hid (Sc W9 [⟨B3, m3, d3, []⟩] x3) := Lib.hid ⟨hb3, fun e he => by rw [List.mem_singleton] at he; subst he; exact Wr.of hm3⟩
                         clear hb3 hm3 hm3')
                      | fail)
                    have hcap3 : m3 ≤ 9223372036854775807 := by have := HC3.out; unfold maxLen at this; omega
                    go_loopw [117] (fun i v1 => ∃ b : Nat, i = .int .i64 b ∧ b ≤ m3 ∧ Hid (Sc W9 [⟨B3, m3, d3, []⟩] v1)) (fun i _ => m3 - (intOf i).toNat)
                    case atStart => exact ⟨0, rfl, Nat.zero_le _, HS3⟩
                    case round =>
                      obtain ⟨b, rfl, hb, HU⟩ := hrel
                      have b0 : (0 : Int) ≤ b := by omega
                      by_cases hbm : b < m3
                      · obtain ⟨ad2, v, e2, g6, f6, hs6⟩ := HU.out.put (List.mem_singleton.2 rfl) (show b < (⟨B3, m3, d3, []⟩ : Ar).n from hbm) (.int .i64 (-3))
                        have e2 : B3 = some ad2 := e2
                        subst e2
                        have HS6 := Lib.hid hs6
                        clear hs6
                        go_wp2
                        go_roundw
                        case rel => exact ⟨b + 1, by go_num, by omega, HS6⟩
                        case measure => simp only [intOf]; omega
                      · obtain rfl : m3 = b := by omega
                        have HY := Lib.hid (HY.out.on HU.out.bel)
                        have q9 := HY.out.cell
                        go_wp2_with (first
                          | (go_at_call 18; refine (ids_any A2 n3 c2 L _ (HP2.out.on HY.out.bel).pl HRL.out (by omega)).mono ?_; rw [HFL.out]; rintro e w12 ⟨A12, c12, rfl, hb12, hm12⟩; rw [HLN.out] at hm12 ⊢; have HY := Lib.hid (HY.out.on hb12); have HM12 := Lib.hid hm12; clear hb12 hm12)
                          | (go_at_call 17; refine (same_i w12.heap.size A12 A1 j j c12 c1 (nb l) (nb l) _ HM12.out.sk.2.2.2 (((HSK.out.on HY.out.bel)).2.2.2) (by omega) (by omega)).mono ?_; rintro e w13 ⟨rfl, hb13⟩; rw [eqB_self]; have HY := Lib.hid (HY.out.on hb13); clear hb13)
                          | fail)
                        go_roundw
                        case rel => exact ⟨k + 1, by go_num, by omega, HY⟩
                        case measure => simp only [intOf]; omega
          · have hk3 : k < n' ∧ ¬ k < 40 ∨ ¬ k < n' := by omega
            rcases hk3 with ⟨hk4, hk5⟩ | hk4
            all_goals
              go_wp2_with (first
                | (go_at_call 3; refine (runs_any _).mono ?_; rintro e w8 ⟨rfl, hb8⟩; have HY := Lib.hid (HY.out.on hb8); clear hb8)
                | fail)
              go_ret
              exact ⟨rfl, HB2.out.trans (HY.out.bel.mono HB2.out.size)⟩
end Go.Proofs.Ytokjeglhmmijfaa
