/-
  The reference reads the words of an empty node of 256: reckoned by a verified evaluator; the words stand in a block.
-/
import Derived.Test.YtndmpdpmfieacaaMm2
namespace Go.Proofs.Ytndmpdpmfieacaa
open Go.RowKit Go.WideShapes Go.ChangeShapes
set_option linter.all false
set_option maxRecDepth 1000000
noncomputable def rowFrom : Nat → List Value → Ev.Row
  | _, [] => .leaf
  | k, x :: l => Ev.Tr.set undef x k (rowFrom (k + 1) l)
theorem rowFrom_get [Ev.Tok] : ∀ (l : List Value) (k j : Nat), k ≤ j → Ev.Tr.get undef (rowFrom k l) j = (l[j - k]?).getD undef
  | [], k, j, _ => by simp [rowFrom, Ev.Tr.get_leaf]
  | x :: l, k, j, h => by
    unfold rowFrom
    rw [Ev.Tr.get_set]
    by_cases e : j = k
    · subst e; simp
    · rw [if_neg e, rowFrom_get l (k + 1) j (by omega)]
      have : j - k = (j - (k + 1)) + 1 := by omega
      rw [this, List.getElem?_cons_succ]
/-- A state with one row of words. -/
noncomputable def st1 (l : List Int) : Ev.St := ⟨1, Ev.Tr.set Ev.deadO ⟨35, 1, true, false, l.length, rowFrom 0 (wv l), false⟩ 0 .leaf, .leaf⟩
theorem st1_obj [Ev.Tok] (l : List Int) (i : Nat) : (st1 l).obj i = if i = 0 then ⟨35, 1, true, false, l.length, rowFrom 0 (wv l), false⟩ else Ev.deadO := by
  unfold Ev.St.obj st1
  show Ev.Tr.get _ _ _ = _
  rw [Ev.Tr.get_set]; rfl
theorem st1_R [Ev.Tok] {w : World} {g : Nat} {l : List Int} (hg : w.heap[g]? = some (.cells (wv l).toArray 35 (0, 0))) : Ev.R (fun k => k < w.heap.size ∧ k ≠ g) ⟨fun _ => g, fun _ => 0, fun _ => 0⟩ (st1 l) w := by
  have hl : ∀ i, ((st1 l).obj i).live = true → i = 0 := fun i h => by
    rw [st1_obj] at h
    by_cases e : i = 0
    · exact e
    · rw [if_neg e] at h; cases h
  have h0 : ∀ i, ((st1 l).mob i).live = true → False := fun i h => absurd (show false = true from h) (by decide)
  have hget : ∀ k, k < l.length → Ev.Tr.get undef (rowFrom 0 (wv l)) k = .int .u64 (l.getD k 0) := fun k hk => by
    rw [rowFrom_get _ _ _ (Nat.zero_le _), Nat.sub_zero]
    unfold wv
    rw [List.getElem?_map, List.getElem?_eq_getElem hk, List.getD_eq_getElem?_getD, List.getElem?_eq_getElem hk]; rfl
  refine ⟨fun i h => by rw [hl i h]; exact Nat.zero_lt_one, fun i h => ?_, fun i h k hk => ?_, fun _ _ _ => ⟨rfl, rfl⟩, fun i j hi hj _ => by rw [hl i hi, hl j hj], fun i h => ?_, fun k hk => hk.1, ⟨fun i h => (h0 i h).elim, fun i h => (h0 i h).elim, fun i h => (h0 i h).elim, fun i j h _ _ => (h0 i h).elim, fun i h => (h0 i h).elim⟩⟩
  · rw [hl i h, st1_obj, if_pos rfl]
    refine ⟨_, _, hg, .inr rfl, by simp [wv], fun k hk => ?_⟩
    rw [hget k hk]
    have : (wv l).toArray[0 + k]? = some (.int .u64 (l.getD k 0)) := by
      rw [Nat.zero_add, List.getElem?_toArray]
      unfold wv
      rw [List.getElem?_map, List.getElem?_eq_getElem hk, List.getD_eq_getElem?_getD, List.getElem?_eq_getElem hk]; rfl
    rw [this]; rfl
  · rw [hl i h, st1_obj, if_pos rfl] at hk ⊢
    rw [hget k hk]; trivial
  · intro hB; exact hB.2 rfl
/-- What the reference reads. -/
noncomputable def isDec : Ev.Res → Bool
  | .val (.tuple ⟨[.agg ⟨[.int .i64 z, .int .u64 x, .string b, .slice _ m _, .slice _ n _]⟩, .bool true]⟩) _ => decide (z = 4) && (decide (x = 0) && (decide (b.size = 0) && (decide (m = 0) && decide (n = 0))))
  | _ => false
theorem dec_ev : letI : Ev.Tok := ⟨fun _ => 0, fun _ => ByteArray.empty⟩; isDec (@Ev.runF Ev.noSym Try.prog Ev.noOrc 100000 (.fn 40 [.slice (some ⟨0, 0, none⟩) 264 264] (st1 root0))) = true := by kernel_rfl
theorem ren_slice [Ev.Tok] (γ : Ev.Gh) (A : Option Addr) (m c : Nat) : ∃ A' c', Ev.ren γ (.slice A m c) = .slice A' m c' := by
  cases A with
  | none => exact ⟨_, _, rfl⟩
  | some a => exact ⟨_, _, rfl⟩
theorem dec0 {w : World} {g : Nat} (hg : w.heap[g]? = some (.cells (wv root0).toArray 35 (0, 0))) :
    Calls Try.prog 40 #[.slice (some ⟨g, 0, none⟩) 264 264] w fun e w' => ∃ b A c A' c', e = .returned (.tuple #[.agg #[.int .i64 4, .int .u64 0, .string b, .slice A 0 c, .slice A' 0 c'], .bool true]) ∧ b.size = 0 ∧ Al g (g + 1) w w' := by
  letI : Ev.Tok := ⟨fun _ => 0, fun _ => ByteArray.empty⟩
  letI : Ev.Sym := Ev.noSym
  have h := dec_ev
  rw [Ev.runF_eq] at h
  unfold isDec at h
  split at h
  case h_2 => cases h
  rename_i z x b A m c A' n c' s hres
  simp only [Bool.and_eq_true, decide_eq_true_eq] at h
  obtain ⟨rfl, rfl, hb, rfl, rfl⟩ := h
  have := (Ev.sound (Ev.noSym_ok Try.prog) Ev.noOrc_ok mixed 100000).1.2 40 _ (st1 root0) _ s hres (fun k => k < w.heap.size ∧ k ≠ g) _ w (st1_R hg) (by simp [Ev.Wf, st1])
  refine this.mono ?_
  rintro r w' ⟨γ, rfl, _, hR, _, hf, _⟩
  obtain ⟨A1, c1, e1⟩ := ren_slice γ A 0 c
  obtain ⟨A2, c2, e2⟩ := ren_slice γ A' 0 c'
  refine ⟨b, A1, c1, A2, c2, ?_, hb, ⟨hf.os, hf.tape, hf.output, hf.size, fun a ha ho => hf.block a ⟨ha, by omega⟩⟩⟩
  rw [← e1, ← e2]; rfl
section
variable {N b B S E R k K G : Nat} {lim root hold : Int} {sl : List Sl} {P I : Nat → Nat} {V : Nat → Value} {xs : Nat → List Int} {w w' : World}
theorem free_root (hbox : w.heap[b]? = some (.cells #[.pointer (some ⟨B, 0, none⟩), .pointer (some ⟨E, 0, none⟩), .int .i64 root, .int .i64 (k : Nat), .int .i64 hold] 135 (0, 0))) : Calls Try.prog 84 #[.pointer (some ⟨b, 0, none⟩), .int .i64 root] w fun e w' => e = .returned (.int .i64 1) ∧ w' = w := by
  have c2 : w.cell? ⟨b, 2, none⟩ = some (.int .i64 root) := (cell_of hbox 2).trans rfl
  have hr : (root == root) = true := by simp
  go_enter Try.func84, Try.ntmps84
  go_wp2
  go_ret
  exact ⟨rfl, rfl⟩
theorem retire_root (cl : Int) (hbox : w.heap[b]? = some (.cells #[.pointer (some ⟨B, 0, none⟩), .pointer (some ⟨E, 0, none⟩), .int .i64 root, .int .i64 (k : Nat), .int .i64 hold] 135 (0, 0))) : Calls Try.prog 85 #[.pointer (some ⟨b, 0, none⟩), .int .i64 cl, .int .i64 root] w fun e w' => e = .returned (.int .i64 1) ∧ w' = w := by
  have c2 : w.cell? ⟨b, 2, none⟩ = some (.int .i64 root) := (cell_of hbox 2).trans rfl
  have hr : (root == root) = true := by simp
  go_enter Try.func85, Try.ntmps85
  go_wp2
  go_ret
  exact ⟨rfl, rfl⟩
theorem root_any (h : MM N b B S E R k K G lim root sl P I V xs w) : Calls Try.prog 39 #[.pointer (some ⟨b, 0, none⟩)] w fun e w' => e = .returned (.int .i64 root) ∧ w' = w := by
  have c2 : w.cell? ⟨b, 2, none⟩ = some (.int .i64 root) := (cell_of h.box 2).trans rfl
  clear h
  go_enter Try.func39, Try.ntmps39
  go_wp2
  go_ret
  exact ⟨rfl, rfl⟩
theorem mlive_any (h : MM N b B S E R k K G lim root sl P I V xs w) (hf : freeN xs 5 ≤ 1000000) : Calls Try.prog 36 #[.pointer (some ⟨b, 0, none⟩)] w fun e w' => e = .returned (.int .i64 ((sl.length : Int) - (freeN xs 5 : Nat))) ∧ w' = w := by
  have c0 : w.cell? ⟨b, 0, none⟩ = some (.pointer (some ⟨B, 0, none⟩)) := (cell_of h.box 0).trans rfl
  have HL := Lib.hid (live_any h.ar h.len hf)
  clear h hf
  go_enter Try.func36, Try.ntmps36
  go_wp2_with (first
    | (go_at_call 14; refine HL.out.mono ?_; rintro e w2 ⟨rfl, rfl⟩)
    | fail)
  go_ret
  exact ⟨rfl, rfl⟩
theorem mnow_any (h : MM N b B S E R k K G lim root sl P I V xs w) : Calls Try.prog 37 #[.pointer (some ⟨b, 0, none⟩)] w fun e w' => e = .returned (.int .i64 0) ∧ w' = w := by
  have c1 : w.cell? ⟨b, 1, none⟩ = some (.pointer (some ⟨E, 0, none⟩)) := (cell_of h.box 1).trans rfl
  have HL := Lib.hid (now0 h.ep)
  clear h
  go_enter Try.func37, Try.ntmps37
  go_wp2_with (first
    | (go_at_call 66; refine HL.out.mono ?_; rintro e w2 ⟨rfl, rfl⟩)
    | fail)
  go_ret
  exact ⟨rfl, rfl⟩
theorem has0 (h : E0 E R k lim w) (j : Nat) (hj : j < k) : Calls Try.prog 96 #[.pointer (some ⟨E, 0, none⟩), .int .i64 j] w fun e w' => e = .returned (.bool true) ∧ w' = w := by
  have h2 := h.c2
  have hj1 : (j : Int) < k := by omega
  have hj0 : (0 : Int) ≤ j := by omega
  clear h
  go_enter Try.func96, Try.ntmps96
  go_wp2
  go_ret
  exact ⟨rfl, rfl⟩
theorem limbo0 (h : E0 E R k lim w) (j : Nat) (hj : j < k) : Calls Try.prog 70 #[.pointer (some ⟨E, 0, none⟩), .int .i64 j] w fun e w' => e = .returned (.int .i64 0) ∧ w' = w := by
  have h2 := h.c2
  have cv := h.lists j hj
  have hj1 : (j : Int) < k := by omega
  have hj0 : (0 : Int) ≤ j := by omega
  have HH := Lib.hid h
  clear h
  go_enter Try.func70, Try.ntmps70
  go_wp2_with (first
    | (go_at_call 96; refine (has0 HH.out j hj).mono ?_; rintro e w2 ⟨rfl, rfl⟩)
    | fail)
  go_ret
  exact ⟨rfl, rfl⟩
theorem mlimbo_any (h : MM N b B S E R k K G lim root sl P I V xs w) (j : Nat) (hj : j < k) : Calls Try.prog 41 #[.pointer (some ⟨b, 0, none⟩), .int .i64 (j : Nat)] w fun e w' => e = .returned (.int .i64 0) ∧ w' = w := by
  have c1 : w.cell? ⟨b, 1, none⟩ = some (.pointer (some ⟨E, 0, none⟩)) := (cell_of h.box 1).trans rfl
  have HL := Lib.hid (limbo0 h.ep j hj)
  clear h
  go_enter Try.func41, Try.ntmps41
  go_wp2_with (first
    | (go_at_call 70; refine HL.out.mono ?_; rintro e w2 ⟨rfl, rfl⟩)
    | fail)
  go_ret
  exact ⟨rfl, rfl⟩
theorem do_free_root (h : MM N b B S E R k K G lim root sl P I V xs w) (j : Nat) (hj : j < k) (ac n was : Int) (A : Option Addr) (m c : Nat) :
    Calls Try.prog 35 #[.pointer (some ⟨b, 0, none⟩), .int .i64 (j : Nat), accV 5 root ac n was A m c] w fun e w' => e = .returned (resV 1 0 false none 0 0) ∧ Below w.heap.size w w' := by
  refine (do5 (X := fun er w' => er = 1 ∧ Below w.heap.size w w') h.box j hj root ac n was A m c (fun W hb hs4 => ?_) ?_).mono ?_
  · refine (free_root (h.on hb).box).mono ?_
    rintro e w' ⟨rfl, rfl⟩
    exact ⟨_, rfl, Nat.le_refl _, fun _ _ _ => rfl, rfl, hb⟩
  · rintro er w' w'' ⟨rfl, h1⟩ ha
    exact ⟨rfl, below_of_al h1 ha⟩
  · rintro e w' ⟨er, rfl, hs, rfl, h1⟩
    exact ⟨rfl, h1⟩
theorem do_retire_root (h : MM N b B S E R k K G lim root sl P I V xs w) (j : Nat) (hj : j < k) (ac n was : Int) (A : Option Addr) (m c : Nat) :
    Calls Try.prog 35 #[.pointer (some ⟨b, 0, none⟩), .int .i64 (j : Nat), accV 6 root ac n was A m c] w fun e w' => e = .returned (resV 1 0 false none 0 0) ∧ Below w.heap.size w w' := by
  refine (do6 (X := fun er w' => er = 1 ∧ Below w.heap.size w w') h.box j hj root ac n was A m c (fun W hb hs4 => ?_) ?_).mono ?_
  · refine (retire_root (j : Nat) (h.on hb).box).mono ?_
    rintro e w' ⟨rfl, rfl⟩
    exact ⟨_, rfl, Nat.le_refl _, fun _ _ _ => rfl, rfl, hb⟩
  · rintro er w' w'' ⟨rfl, h1⟩ ha
    exact ⟨rfl, below_of_al h1 ha⟩
  · rintro e w' ⟨er, rfl, hs, rfl, h1⟩
    exact ⟨rfl, h1⟩
/-- An access that is none, by a client. -/
theorem do_bad (h : MM N b B S E R k K G lim root sl P I V xs w) (j : Nat) (hj : j < k) (kd rf ac n was : Int) (A : Option Addr) (m c : Nat) (hk : kd < 1 ∨ 15 < kd) :
    Calls Try.prog 35 #[.pointer (some ⟨b, 0, none⟩), .int .i64 (j : Nat), accV kd rf ac n was A m c] w fun e w' => e = .returned (resV 1 0 false none 0 0) ∧ Below w.heap.size w w' := by
  refine (do_in (X := fun er z ok A' m' c' w' => er = 1 ∧ Below w.heap.size w w') h.box j hj kd rf ac n was A m c (fun W hb hs => ?_) ?_).mono ?_
  · refine (perf_bad b (j : Nat) kd rf ac n was A m c hk W).mono ?_
    rintro e w' ⟨rfl, hb'⟩
    exact ⟨_, _, _, _, _, _, rfl, hb'.size, hb'.block _ (by omega), rfl, hb.trans (hb'.mono hb.size)⟩
  · rintro er z ok A' m' c' w' w'' ⟨rfl, h1⟩ ha _
    exact ⟨rfl, below_of_al h1 ha⟩
  · rintro e w' ⟨er, z, ok, A', m', c', rfl, hs, rfl, h1⟩
    exact ⟨rfl, h1⟩
end
end Go.Proofs.Ytndmpdpmfieacaa
