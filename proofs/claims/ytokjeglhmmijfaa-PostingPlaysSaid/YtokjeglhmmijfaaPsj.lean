/-
  PostingRises; conditions: lengths. And what the other laws share.
-/
import Derived.Test.YtokjeglhmmijfaaPsi
import Derived.Test.YtokjeglhmmijfaaBase
namespace Go.Proofs.Ytokjeglhmmijfaa
open Go.RowKit Go.WideShapes Go.ChangeShapes
set_option linter.all false
theorem within_any (n h : Int) (h0 : 0 ≤ h) (h9 : h ≤ 1099511627776) (w : World) :
    Calls Try.prog 19 #[.int .i64 n, .int .i64 0, .int .i64 h] w fun e w' => e = .returned (.int .i64 (withinV n (h + 1))) ∧ w = w' := by
  have h1 : -(h + 1) < n.tmod (h + 1) := Int.lt_tmod_of_pos n (by omega)
  have h2 : n.tmod (h + 1) < h + 1 := Int.tmod_lt_of_pos n (by omega)
  have h3 : ¬ (h + 1 = 0) := by omega
  go_enter Try.func19, Try.ntmps19
  go_wp2
  all_goals go_ret
  all_goals refine ⟨?_, rfl⟩
  all_goals simp only [withinV]
  all_goals first
    | (rw [if_pos (by omega)]; simp; omega)
    | (rw [if_neg (by omega)]; simp)
    | (rw [if_neg (by omega)]; simp; omega)
/-- Within 0 .. h is a number. -/
theorem within_nat (n : Int) (h : Nat) (h9 : h ≤ 1099511627776) (w : World) :
    Calls Try.prog 19 #[.int .i64 n, .int .i64 0, .int .i64 (h : Int)] w fun e w' => ∃ k : Nat, e = .returned (.int .i64 (k : Int)) ∧ k ≤ h ∧ (k : Int) = withinV n (h + 1) ∧ w = w' := by
  refine (within_any n h (by omega) (by omega) w).mono ?_
  rintro e w' ⟨rfl, rfl⟩
  obtain ⟨k, hk, hlt⟩ := withinV_nat n (h + 1) (by omega)
  exact ⟨k, by rw [← hk]; rfl, by omega, hk.symm, rfl⟩
theorem has_of_not {y : Nat} {l : List Nat} (h : ¬ y ∈ l) : hasB (y : Int) l = false := by
  cases hb : hasB (y : Int) l
  · rfl
  · exact absurd (has_mem hb) h
theorem add_yes (w : World) (F : Nat → Prop) (hF : ∀ b, F b → b < w.heap.size) (A : Option Addr) (n c : Nat) (L : List (List Nat)) (y : Nat) (h : PLF w F A n c L) (hR : RL L) (hn : n ≤ 1000000) (hy : y ≤ 1073741824) (hm : ¬ y ∈ L.flatten) :
    Calls Try.prog 12 #[plV A n c, .int .i64 (y : Int)] w (AddP F (addL y L) true w) := by
  by_cases hL : L = []
  · subst hL
    obtain rfl : n = 0 := by have := h.len; simpa using this.symm
    exact add_nil w F hF A c y h hy
  · exact add_more w F hF A n c L y h hR hn hL hy (has_of_not hm)
theorem len_flat {L : List (List Nat)} (h : RL L) : L.length ≤ L.flatten.length := by
  have := h.len
  clear h
  induction L with
  | nil => simp
  | cons b r ih =>
    have h1 := (this b (List.mem_cons_self ..)).1
    have h2 := ih fun c hc => this c (List.mem_cons_of_mem _ hc)
    rw [List.flatten_cons, List.length_append, List.length_cons]; omega
/-- A box that holds a list which keeps out of it. -/
structure LB (w : World) (b A) (n c : Nat) (L : List (List Nat)) (W : World) : Prop where
  bel : Below w.heap.size w W
  ge : w.heap.size ≤ b
  cell : W.heap[b]? = some (.cells #[.slice A n c] 24 (0, 0))
  pl : PLF W (· = b) A n c L
theorem LB.on {w W W' : World} {b A} {n c : Nat} {L : List (List Nat)} (h : LB w b A n c L W) (hb : Below W.heap.size W W') : LB w b A n c L W' :=
  ⟨h.bel.trans (hb.mono h.bel.size), h.ge, (hb.block _ (lt_of_heap h.cell)).trans h.cell, h.pl.on hb⟩
theorem LB.c {w W : World} {b A} {n c : Nat} {L : List (List Nat)} (h : LB w b A n c L W) : W.cell? ⟨b, 0, none⟩ = some (.slice A n c) := by rw [cell_of h.cell]; rfl
theorem LB.f {w W : World} {b A} {n c : Nat} {L : List (List Nat)} (h : LB w b A n c L W) : W.frozen? ⟨b, 0, none⟩ = false := frozen_of h.cell 0
theorem LB.lt {w W : World} {b A} {n c : Nat} {L : List (List Nat)} (h : LB w b A n c L W) : b < W.heap.size := lt_of_heap h.cell
theorem LB.set {w W : World} {b A A'} {n c n' c' : Nat} {L L' : List (List Nat)} (h : LB w b A n c L W) (hp : PLF W (· = b) A' n' c' L') : LB w b A' n' c' L' (W.setCell ⟨b, 0, none⟩ (.slice A' n' c')) :=
  ⟨h.bel.setCell h.ge _, h.ge, heap_set_one h.cell, hp.far rfl _ _⟩
set_option maxRecDepth 100000 in
set_option maxHeartbeats 3200000 in
theorem rises_any (w : World) (n0 : Int) (A : Option Addr) (n c : Nat) (x : List Int) (r : Reads w w.heap.size 1 A n (x.map (Value.int .i64))) (hc : n ≤ c) (hm : c ≤ maxLen) :
    Calls Try.prog 7 #[.int .i64 n0, .slice A n c] w fun e w' => e = .returned (.bool true) ∧ Below w.heap.size w w' := by
  have HR := Lib.hid r
  have hc9 : c ≤ 9223372036854775807 := by unfold maxLen at hm; omega
  clear r hm
  go_enter Try.func7, Try.ntmps7
  go_upto_region 2 with (fail)
  obtain ⟨W, hW⟩ : ∃ W, W = w.alloc (.cells #[.slice none 0 0] 24) := ⟨_, rfl⟩
  have HB0 : Hid (LB w w.heap.size none 0 0 [] W) := Lib.hid (by rw [hW]; exact ⟨below_alloc _ _, Nat.le_refl _, heap_alloc_new _ _, PLF.nil _ _⟩)
  rw [← hW]
  clear hW
  go_upto_region 3 with (first
    | (go_at_call 19; refine (within_nat n0 120 (by omega) _).mono ?_; rintro e w2 ⟨N, rfl, hN, -, rfl⟩)
    | fail)
  go_wp2
  go_loopw [7, 8, 9, 10, 11] (fun l i _ _ _ wr => ∃ (m k : Nat) (A1 : Option Addr) (c1 n1 : Nat), l = .int .i64 m ∧ i = .int .i64 k ∧ k ≤ N ∧ m ≤ 100 * k ∧ n1 ≤ k ∧ Hid (∃ L, LB w w.heap.size A1 n1 c1 L wr ∧ RL L ∧ Rise L ∧ (∀ y ∈ L.flatten, y ≤ m) ∧ L.flatten.length = k)) (fun _ i _ _ _ _ => N - (intOf i).toNat)
  case atStart => exact ⟨0, 0, none, 0, 0, rfl, rfl, Nat.zero_le _, Nat.zero_le _, Nat.zero_le _, Lib.hid ⟨[], HB0.out, RL.nil, (fun i hi => by simp at hi), by simp, rfl⟩⟩
  case round =>
    obtain ⟨m, k, A1, c1, n1, rfl, rfl, hk, hm, hn1, HI⟩ := hrel
    have k0 : (0 : Int) ≤ k := by omega
    by_cases hlt : k < N
    · by_cases hkn : k < n
      · obtain ⟨ad, u, rfl, hbl, hu, g0⟩ := HR.out.at_ hkn
        rw [List.getElem?_map] at hu
        obtain ⟨z, hz⟩ : ∃ z, u = .int .i64 z := by
          cases hx : x[k]? with
          | none => rw [hx] at hu; simp at hu
          | some z => rw [hx] at hu; simp at hu; exact ⟨z, hu.symm⟩
        subst hz
        have g1 : wr.cell? (ad.add k) = some (.int .i64 z) := by obtain ⟨L, hL, _⟩ := HI.out; exact (hL.bel.cell (p := ad.add k) (by rw [block_of_add]; exact hbl)).trans g0
        clear hu g0
        go_upto_region 9 with (first
          | (go_at_call 19; refine (within_nat z 99 (by omega) _).mono ?_; rintro e w2 ⟨g, rfl, hg, -, rfl⟩)
          | fail)
        obtain ⟨s, hs⟩ : ∃ s : Nat, s = 1 + g := ⟨_, rfl⟩
        rw [show (1 : Int) + (g : Int) = (s : Int) from by omega]
        have hs9 : s ≤ 100 := by omega
        have hs1 : 1 ≤ s := by omega
        clear hs hg
        go_upto_region 10 with (fail)
        obtain ⟨y, hy⟩ : ∃ y : Nat, y = m + s := ⟨_, rfl⟩
        have ey : (m : Int) + (s : Int) = (y : Int) := by omega
        rw [ey]
        clear ey
        obtain ⟨L, hL, hRL, hRise, hle, hlen⟩ := HI.out
        have hnot : ¬ y ∈ L.flatten := fun h => by have := hle y h; omega
        have hy9 : y ≤ 1073741824 := by omega
        obtain ⟨L', hL'⟩ : ∃ L', L' = addL y L := ⟨_, rfl⟩
        have HF : Hid (RL L' ∧ Rise L' ∧ (∀ z ∈ L'.flatten, z ≤ y) ∧ L'.flatten.length = k + 1 ∧ L'.length ≤ k + 1) := Lib.hid (by
          obtain ⟨a, b, e1, e2, h1, h2⟩ := add_parts hRL hy9 hnot
          have hR2 : RL L' := by rw [hL']; exact add_right hRL hy9 hnot
          have hl2 : L'.flatten.length = k + 1 := by rw [hL', e2, ← hlen, e1]; simp; omega
          refine ⟨hR2, by rw [hL']; exact rise_add hRL hRise (fun z hz => by have := hle z hz; omega), ?_, hl2, by rw [← hl2]; exact len_flat hR2⟩
          rw [hL', e2]
          intro z hz
          simp only [List.mem_append, List.mem_cons] at hz
          rcases hz with hz | rfl | hz
          · exact Nat.le_of_lt (h1 z hz)
          · exact Nat.le_refl _
          · have := hle z (by rw [e1]; simp [hz]); omega)
        obtain ⟨n3, hn3⟩ : ∃ n3, n3 = L'.length := ⟨_, rfl⟩
        have hn39 : n3 ≤ k + 1 := by rw [hn3]; exact HF.out.2.2.2.2
        have HC : Hid (Calls Try.prog 12 #[plV A1 n1 c1, .int .i64 (y : Int)] wr (AddP (· = w.heap.size) L' true wr)) := Lib.hid (by
          rw [hL']; exact add_yes wr _ (fun b e => by rw [e]; exact hL.lt) A1 n1 c1 L y hL.pl hRL (by omega) hy9 hnot)
        have HLB := Lib.hid hL
        have HN3 := Lib.hid hn3
        have q0 := hL.c
        have ym : (y : Int) ≤ 100 * (k + 1) := by omega
        clear hL hRL hRise hle hlen hnot hL' hn3 hy hy9
        unfold plV at HC
        go_upto_region 11 with (first
          | (go_at_call 12; refine HC.out.mono ?_; rintro e w3 ⟨A3, c3, rfl, hb3, hp3⟩
             rw [← HN3.out] at hp3 ⊢
             have HB3 := Lib.hid hb3
             have HP3 : Hid (PLF w3 (· = w.heap.size) A3 n3 c3 L') := Lib.hid hp3
             clear hb3 hp3)
          | fail)
        obtain ⟨W3, hW3⟩ : ∃ W3, W3 = w3.alloc (Obj.cells #[Value.slice A3 n3 c3] 24) := ⟨_, rfl⟩
        have HX3 : Hid (PBox A3 n3 c3 w3 W3) := Lib.hid (by rw [hW3]; exact PBox.new _ _ _ _)
        have HQ3 : Hid (PLF W3 (· = w.heap.size) A3 n3 c3 L') := Lib.hid (HP3.out.on HX3.out.bel)
        have HLC : Hid (LB w w.heap.size A1 n1 c1 L W3) := Lib.hid ((HLB.out.on HB3.out).on HX3.out.bel)
        have p3 := HX3.out.cell
        rw [← hW3]
        clear hW3 q0
        have k9 : (k : Int) ≤ 120 := by omega
        go_upto_region 13 with (first
          | (go_at_call 15; refine (len_any A3 n3 c3 L' _ HQ3.out.pl HF.out.1 (by omega)).mono ?_; rintro e w5 ⟨rfl, hb5⟩
             rw [HF.out.2.2.2.1, show ((k + 1 : Nat) : Int) = (k : Int) + 1 from by omega]
             have HB5 := Lib.hid hb5
             clear hb5)
          | fail)
        have HLD := Lib.hid (HLC.out.on HB5.out)
        have p5 := (HX3.out.on HB5.out).cell
        have c5 := HLD.out.c
        have f5 := HLD.out.f
        have HQ5 := Lib.hid (HQ3.out.on HB5.out)
        go_wp2
        go_roundw
        case rel => exact ⟨y, k + 1, A3, c3, n3, rfl, by go_num, by omega, by omega, by omega, Lib.hid ⟨L', HLD.out.set HQ5.out, HF.out.1, HF.out.2.1, HF.out.2.2.1, HF.out.2.2.2.1⟩⟩
        case measure => simp only [intOf]; omega
      · go_upto_region 10 with (fail)
        obtain ⟨y, hy⟩ : ∃ y : Nat, y = m + 1 := ⟨_, rfl⟩
        have ey : (m : Int) + 1 = (y : Int) := by omega
        rw [ey]
        clear ey
        obtain ⟨L, hL, hRL, hRise, hle, hlen⟩ := HI.out
        have hnot : ¬ y ∈ L.flatten := fun h => by have := hle y h; omega
        have hy9 : y ≤ 1073741824 := by omega
        obtain ⟨L', hL'⟩ : ∃ L', L' = addL y L := ⟨_, rfl⟩
        have HF : Hid (RL L' ∧ Rise L' ∧ (∀ z ∈ L'.flatten, z ≤ y) ∧ L'.flatten.length = k + 1 ∧ L'.length ≤ k + 1) := Lib.hid (by
          obtain ⟨a, b, e1, e2, h1, h2⟩ := add_parts hRL hy9 hnot
          have hR2 : RL L' := by rw [hL']; exact add_right hRL hy9 hnot
          have hl2 : L'.flatten.length = k + 1 := by rw [hL', e2, ← hlen, e1]; simp; omega
          refine ⟨hR2, by rw [hL']; exact rise_add hRL hRise (fun z hz => by have := hle z hz; omega), ?_, hl2, by rw [← hl2]; exact len_flat hR2⟩
          rw [hL', e2]
          intro z hz
          simp only [List.mem_append, List.mem_cons] at hz
          rcases hz with hz | rfl | hz
          · exact Nat.le_of_lt (h1 z hz)
          · exact Nat.le_refl _
          · have := hle z (by rw [e1]; simp [hz]); omega)
        obtain ⟨n3, hn3⟩ : ∃ n3, n3 = L'.length := ⟨_, rfl⟩
        have hn39 : n3 ≤ k + 1 := by rw [hn3]; exact HF.out.2.2.2.2
        have HC : Hid (Calls Try.prog 12 #[plV A1 n1 c1, .int .i64 (y : Int)] wr (AddP (· = w.heap.size) L' true wr)) := Lib.hid (by
          rw [hL']; exact add_yes wr _ (fun b e => by rw [e]; exact hL.lt) A1 n1 c1 L y hL.pl hRL (by omega) hy9 hnot)
        have HLB := Lib.hid hL
        have HN3 := Lib.hid hn3
        have q0 := hL.c
        have ym : (y : Int) ≤ 100 * (k + 1) := by omega
        clear hL hRL hRise hle hlen hnot hL' hn3 hy hy9
        unfold plV at HC
        go_upto_region 11 with (first
          | (go_at_call 12; refine HC.out.mono ?_; rintro e w3 ⟨A3, c3, rfl, hb3, hp3⟩
             rw [← HN3.out] at hp3 ⊢
             have HB3 := Lib.hid hb3
             have HP3 : Hid (PLF w3 (· = w.heap.size) A3 n3 c3 L') := Lib.hid hp3
             clear hb3 hp3)
          | fail)
        obtain ⟨W3, hW3⟩ : ∃ W3, W3 = w3.alloc (Obj.cells #[Value.slice A3 n3 c3] 24) := ⟨_, rfl⟩
        have HX3 : Hid (PBox A3 n3 c3 w3 W3) := Lib.hid (by rw [hW3]; exact PBox.new _ _ _ _)
        have HQ3 : Hid (PLF W3 (· = w.heap.size) A3 n3 c3 L') := Lib.hid (HP3.out.on HX3.out.bel)
        have HLC : Hid (LB w w.heap.size A1 n1 c1 L W3) := Lib.hid ((HLB.out.on HB3.out).on HX3.out.bel)
        have p3 := HX3.out.cell
        rw [← hW3]
        clear hW3 q0
        have k9 : (k : Int) ≤ 120 := by omega
        go_upto_region 13 with (first
          | (go_at_call 15; refine (len_any A3 n3 c3 L' _ HQ3.out.pl HF.out.1 (by omega)).mono ?_; rintro e w5 ⟨rfl, hb5⟩
             rw [HF.out.2.2.2.1, show ((k + 1 : Nat) : Int) = (k : Int) + 1 from by omega]
             have HB5 := Lib.hid hb5
             clear hb5)
          | fail)
        have HLD := Lib.hid (HLC.out.on HB5.out)
        have p5 := (HX3.out.on HB5.out).cell
        have c5 := HLD.out.c
        have f5 := HLD.out.f
        have HQ5 := Lib.hid (HQ3.out.on HB5.out)
        go_wp2
        go_roundw
        case rel => exact ⟨y, k + 1, A3, c3, n3, rfl, by go_num, by omega, by omega, by omega, Lib.hid ⟨L', HLD.out.set HQ5.out, HF.out.1, HF.out.2.1, HF.out.2.2.1, HF.out.2.2.2.1⟩⟩
        case measure => simp only [intOf]; omega
    · obtain rfl : k = N := by omega
      obtain ⟨L, hL, hRL, hRise, hle, hlen⟩ := HI.out
      have hln := hL.pl.len
      have hz : (n1 = 0 ↔ k = 0) := by
        rw [← hln, ← hlen]
        constructor
        · intro h; rw [List.eq_nil_of_length_eq_zero h]; rfl
        · intro h; have := len_flat hRL; omega
      obtain rfl : n1 = L.length := hln.symm
      have HN1 : Hid ((∀ i, i + 1 < L.length → (nb (L.getD i [])).length = 9) ∧ ∀ i, i < L.length → (nb (L.getD i [])).length ≤ 16) := Lib.hid ⟨fun i hi => by rw [nb_len]; exact hRise i hi, fun i hi => by rw [nb_len]; exact (hRL.len _ (getD_mem hi)).2⟩
      have HC : Hid (Calls Try.prog 16 #[plV A1 L.length c1] wr (BlksP L wr)) := Lib.hid (blocks_any A1 _ c1 L wr hL.pl.pl hRL (by omega))
      have q0 := hL.c
      have HB1 := Lib.hid hL.bel
      clear hL hRL hRise hle hlen hln HI
      obtain ⟨n1, hn1⟩ : ∃ n1, n1 = L.length := ⟨_, rfl⟩
      rw [← hn1] at q0 HC hz
      unfold plV at HC
      have HNN := Lib.hid hn1
      clear hn1
      go_upto_region 15 with (first
        | (go_at_call 16; refine HC.out.mono ?_; rintro e w3 ⟨A3, c3, own, rfl, hb3, ho3, hm3⟩
           rw [← HNN.out] at ho3 ⊢
           have HB3 := Lib.hid (HB1.out.trans (hb3.mono HB1.out.size))
           have HO3 := Lib.hid ho3
           have HM3 := Lib.hid hm3
           clear hb3 ho3 hm3)
        | fail)
      have HON : Hid (own.length = n1) := Lib.hid (by have := congrArg List.length HM3.out; rw [List.length_map, List.length_map] at this; rw [HNN.out]; exact this)
      have HO2 := Lib.hid (HO3.out.lk HON.out)
      have HE2 : Hid (∀ k, k < n1 → (own.getD k dA).l = nb (L.getD k [])) := Lib.hid (fun k hk => HO2.out.el HM3.out k hk)
      have hk9 : n1 ≤ 120 := by have := HNN.out; omega
      have HZ := Lib.hid hz
      clear hz
      go_wp2
      go_loopw [13, 54] (fun _ i wr => ∃ j : Nat, i = .int .i64 j ∧ j ≤ n1 ∧ wr = w3) (fun _ i _ => n1 - (intOf i).toNat)
      case atStart => exact ⟨0, rfl, Nat.zero_le _, rfl⟩
      case round =>
        obtain ⟨j, rfl, hj, rfl⟩ := hrel
        by_cases hlt2 : j < n1
        · obtain ⟨ad, e1, g1, s1⟩ := HO2.out.at_ hlt2
          subst e1
          rw [HE2.out j hlt2] at s1
          obtain ⟨e1, he1⟩ : ∃ e1, e1 = own.getD j dA := ⟨_, rfl⟩
          rw [← he1] at g1 s1
          obtain ⟨B1, m1, d1, l1⟩ := e1
          have hl1 : (nb (L.getD j [])).length = m1 := s1.len
          have j0 : (0 : Int) ≤ j := by omega
          have j9 : (j : Int) ≤ 120 := by omega
          have hL16 : m1 ≤ 16 := by rw [← hl1]; exact HN1.out.2 j (by rw [← HNN.out]; exact hlt2)
          by_cases hlast : j + 1 < n1
          · obtain rfl : m1 = 9 := by rw [← hl1]; exact HN1.out.1 j (by rw [← HNN.out]; exact hlast)
            clear hl1 he1 s1 hL16
            go_wp2
            go_roundw
            case rel => exact ⟨j + 1, by go_num, by omega, by trivial⟩
            case measure => simp only [intOf]; omega
          · clear hl1 he1 s1
            have hlast' : ¬ ((j : Int) + 1 < n1) := by omega
            go_wp2
            go_roundw
            case rel => exact ⟨j + 1, by go_num, by omega, by trivial⟩
            case measure => simp only [intOf]; omega
        · obtain rfl : j = n1 := by omega
          by_cases hk0 : k = 0
          · have hj0 := HZ.out.2 hk0
            subst hk0; subst hj0
            go_wp2_with (first
              | (go_at_call 3; refine (runs_any _).mono ?_; rintro e w5 ⟨rfl, hb5⟩; have HB5 := Lib.hid hb5; clear hb5)
              | fail)
            go_ret
            exact ⟨rfl, HB3.out.trans (HB5.out.mono HB3.out.size)⟩
          · have hj0 : ¬ j = 0 := fun e => hk0 (HZ.out.1 e)
            have hj1 : ¬ (j : Int) = 0 := by omega
            have hk1 : ¬ (k : Int) = 0 := by omega
            have hjb : ((j : Int) == 0) = false := beq_eq_false_iff_ne.2 hj1
            have hkb : ((k : Int) == 0) = false := beq_eq_false_iff_ne.2 hk1
            have hjk : ((j : Int) == 0) = ((k : Int) == 0) := by rw [hjb, hkb]
            go_wp2_with (first
              | (go_at_call 3; refine (runs_any _).mono ?_; rintro e w5 ⟨rfl, hb5⟩; have HB5 := Lib.hid hb5; clear hb5)
              | fail)
            go_ret
            exact ⟨rfl, HB3.out.trans (HB5.out.mono HB3.out.size)⟩
end Go.Proofs.Ytokjeglhmmijfaa
