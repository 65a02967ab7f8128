/-
  The configuration that is made of any: reckoned by a verified evaluator; no condition.
  New epochs, nothing waits; conditions: sizes.
  The words of an empty node of 256, reckoned by a verified evaluator; no condition.
  A new memory of a configuration that may be; conditions: its bounds.
  Accesses of a memory: who is no client, and what is no access; conditions: lengths.
  Accesses of a memory: who is a client; conditions: lengths.
-/
import Derived.Test.YtndmpdpmfieacaaBase
import Derived.Test.YtndmpdpmfieacaaEvU
import Derived.Test.YtndmpdpmfieacaaArQ
import Derived.OwnWalk
import Derived.Laws.OwnMore
import Derived.Test.YtndmpdpmfieacaaArD
import Derived.Test.YtndmpdpmfieacaaArU
namespace Go.Proofs.Ytndmpdpmfieacaa
open Go.RowKit Go.WideShapes Go.ChangeShapes
set_option linter.all false
set_option maxRecDepth 1000000
/-- A call that hands back a value that hangs on no memory. -/
noncomputable def isVal (u : Value) : Ev.Res → Bool
  | .val v _ => Ev.veq v u
  | _ => false
theorem calls_val [Ev.Tok] [Ev.Sym] {P : Program} {orc : Ev.Orc} (hs : Ev.SymOk P) (ho : Ev.OrcOk P orc) (hm : P.follows .mixedOrders = true) {n g : Nat} {u u' : Value} {args : List Value} (hu : ∀ γ, Ev.ren γ u = u') (ha : ∀ v ∈ args, Ev.Wf 0 v) (h : isVal u (Ev.runF P orc n (.fn g args Ev.st0)) = true) (w : World) :
    Calls P g (args.map (Ev.ren Ev.γ0)).toArray w fun e w' => e = .returned u' ∧ Below w.heap.size w w' := by
  rw [Ev.runF_eq] at h
  unfold isVal at h
  split at h
  case h_2 => cases h
  rename_i v s hres
  have hv := Ev.veq_spec _ _ h
  subst hv
  have := (Ev.sound hs ho hm n).1.2 g args Ev.st0 _ s hres (fun k => k < w.heap.size) Ev.γ0 w (Ev.R.zero _ w) ha
  refine this.mono ?_
  rintro r w' ⟨γ, rfl, _, hR, _, hb, _⟩
  exact ⟨by rw [hu γ], hb.below⟩
section
variable [Ev.Tok] [Ev.Sym]
theorem c_add {x y v : Value} {a b : Int} (hs : -9223372036854775808 ≤ a + b ∧ a + b ≤ 9223372036854775807) (hx : ∀ γ, Ev.ren γ x = .int .i64 a) (hy : ∀ γ, Ev.ren γ y = .int .i64 b) (hv : ∀ γ, Ev.ren γ v = .int .i64 (a + b)) (hw : Ev.Wf 0 v) : (Ev.BRow.mk .add x y v).ok Try.prog :=
  Ev.brow_int (k := .i64) (a := a) (b := b) rfl hx hy (u := .int .i64 (IntKind.i64.wrap (a + b))) rfl (fun γ => by rw [hv, IntWalk.i64_in _ (by omega)]) hw
theorem c_win {i k h : Nat} (h9 : h ≤ 1099511627776) (hk : withinV (Ev.Tok.tok i) ((h + 1 : Nat) : Int) = Ev.Tok.tok k) : (Ev.ORow.mk 21 [tk i, .int .i64 0, num h] (tk k)).ok Try.prog := by
  refine ⟨trivial, fun γ w => (within_any (Ev.Tok.tok i) h (by omega) (by omega) w).mono fun e w' ⟨he, hw⟩ => ⟨?_, by subst hw; exact Below.refl _ _⟩⟩
  rw [he, show ((h : Int) + 1) = ((h + 1 : Nat) : Int) from by omega, hk]; rfl
end
/-- What each field is bounded by, and what is added to it. -/
def cfgH (i : Nat) : Nat := if i = 0 then 20 else if i = 1 then 20 else if i = 2 then 8 else if i = 3 then 4 else if i = 4 then 2 else if i = 5 then 3 else if i = 6 then 56 else 5
def cfgC (i : Nat) : Nat := if i = 0 then 40 else if i = 1 then 24 else if i = 2 then 8 else if i = 3 then 4 else if i = 4 then 2 else if i = 5 then 1 else if i = 6 then 8 else 1
def cfgO : List Ev.ORow := [⟨21, [tk 0, .int .i64 0, num 20], tk 8⟩, ⟨21, [tk 1, .int .i64 0, num 20], tk 9⟩, ⟨21, [tk 2, .int .i64 0, num 8], tk 10⟩, ⟨21, [tk 3, .int .i64 0, num 4], tk 11⟩, ⟨21, [tk 4, .int .i64 0, num 2], tk 12⟩, ⟨21, [tk 5, .int .i64 0, num 3], tk 13⟩, ⟨21, [tk 6, .int .i64 0, num 56], tk 14⟩, ⟨21, [tk 7, .int .i64 0, num 5], tk 15⟩]
def cfgR : List Ev.BRow := [⟨.add, num 40, tk 8, tk 16⟩, ⟨.add, num 24, tk 9, tk 17⟩, ⟨.add, num 8, tk 10, tk 18⟩, ⟨.add, num 4, tk 11, tk 19⟩, ⟨.add, num 2, tk 12, tk 20⟩, ⟨.add, num 1, tk 13, tk 21⟩, ⟨.add, num 8, tk 14, tk 22⟩, ⟨.add, num 1, tk 15, tk 23⟩]
theorem cfg_ev : isVal (.agg #[tk 16, tk 17, tk 18, tk 19, tk 20, tk 21, tk 22, tk 23]) (@Ev.runF (Ev.tabSym cfgR [] []) Try.prog (Ev.orcOf cfgO [] []) 8000 (.fn 33 [.agg #[tk 0, tk 1, tk 2, tk 3, tk 4, tk 5, tk 6, tk 7]] Ev.st0)) = true := by kernel_rfl
def eight (f : Nat → Int) : Array Value := #[.int .i64 (f 0), .int .i64 (f 1), .int .i64 (f 2), .int .i64 (f 3), .int .i64 (f 4), .int .i64 (f 5), .int .i64 (f 6), .int .i64 (f 7)]
theorem cfg_any (s : Nat → Int) (w : World) : Calls Try.prog 33 #[.agg (eight s)] w fun e w' => ∃ g : Nat → Nat, (∀ i, i < 8 → cfgC i ≤ g i ∧ g i ≤ cfgC i + cfgH i) ∧ e = .returned (.agg (eight fun i => (g i : Nat))) ∧ Below w.heap.size w w' := by
  have hk : ∀ i, ∃ k : Nat, withinV (s i) ((cfgH i + 1 : Nat) : Int) = k ∧ k < cfgH i + 1 := fun i => withinV_nat _ _ (by omega)
  obtain ⟨k, hk⟩ : ∃ k : Nat → Nat, ∀ i, withinV (s i) ((cfgH i + 1 : Nat) : Int) = k i ∧ k i < cfgH i + 1 := ⟨fun i => Classical.choose (hk i), fun i => Classical.choose_spec (hk i)⟩
  letI : Ev.Tok := ⟨fun i => if i < 8 then s i else if i < 16 then (k (i - 8) : Nat) else (cfgC (i - 16) : Nat) + (k (i - 16) : Nat), fun _ => ByteArray.empty⟩
  letI : Ev.Sym := Ev.noSym
  have h0 := hk 0
  have h1 := hk 1
  have h2 := hk 2
  have h3 := hk 3
  have h4 := hk 4
  have h5 := hk 5
  have h6 := hk 6
  have h7 := hk 7
  simp only [cfgH, show ¬ (1 : Nat) = 0 from by decide, show ¬ (2 : Nat) = 0 from by decide, if_true, if_false] at h0 h1
  have hr : ∀ r ∈ cfgR, r.ok Try.prog := by
    intro r hr
    simp only [cfgR, List.mem_cons, List.not_mem_nil, or_false] at hr
    rcases hr with rfl | rfl | rfl | rfl | rfl | rfl | rfl | rfl
    · exact c_add (a := 40) (b := (k 0 : Nat)) (by omega) (fun _ => rfl) (fun _ => rfl) (fun _ => rfl) trivial
    · exact c_add (a := 24) (b := (k 1 : Nat)) (by omega) (fun _ => rfl) (fun _ => rfl) (fun _ => rfl) trivial
    · exact c_add (a := 8) (b := (k 2 : Nat)) (by have : k 2 < 9 := h2.2; omega) (fun _ => rfl) (fun _ => rfl) (fun _ => rfl) trivial
    · exact c_add (a := 4) (b := (k 3 : Nat)) (by have : k 3 < 5 := h3.2; omega) (fun _ => rfl) (fun _ => rfl) (fun _ => rfl) trivial
    · exact c_add (a := 2) (b := (k 4 : Nat)) (by have : k 4 < 3 := h4.2; omega) (fun _ => rfl) (fun _ => rfl) (fun _ => rfl) trivial
    · exact c_add (a := 1) (b := (k 5 : Nat)) (by have : k 5 < 4 := h5.2; omega) (fun _ => rfl) (fun _ => rfl) (fun _ => rfl) trivial
    · exact c_add (a := 8) (b := (k 6 : Nat)) (by have : k 6 < 57 := h6.2; omega) (fun _ => rfl) (fun _ => rfl) (fun _ => rfl) trivial
    · exact c_add (a := 1) (b := (k 7 : Nat)) (by have : k 7 < 6 := h7.2; omega) (fun _ => rfl) (fun _ => rfl) (fun _ => rfl) trivial
  have ho : ∀ r ∈ cfgO, r.ok Try.prog := by
    intro r hr
    simp only [cfgO, List.mem_cons, List.not_mem_nil, or_false] at hr
    rcases hr with rfl | rfl | rfl | rfl | rfl | rfl | rfl | rfl
    · exact c_win (i := 0) (k := 8) (h := 20) (by omega) (hk 0).1
    · exact c_win (i := 1) (k := 9) (h := 20) (by omega) (hk 1).1
    · exact c_win (i := 2) (k := 10) (h := 8) (by omega) (hk 2).1
    · exact c_win (i := 3) (k := 11) (h := 4) (by omega) (hk 3).1
    · exact c_win (i := 4) (k := 12) (h := 2) (by omega) (hk 4).1
    · exact c_win (i := 5) (k := 13) (h := 3) (by omega) (hk 5).1
    · exact c_win (i := 6) (k := 14) (h := 56) (by omega) (hk 6).1
    · exact c_win (i := 7) (k := 15) (h := 5) (by omega) (hk 7).1
  refine (@calls_val _ (Ev.tabSym cfgR [] []) Try.prog _ (Ev.tabSym_ok hr (by simp) (by simp)) (Ev.orcOf_ok ho (by simp) (by simp)) mixed 8000 33 (.agg #[tk 16, tk 17, tk 18, tk 19, tk 20, tk 21, tk 22, tk 23]) (.agg (eight fun i => ((cfgC i + k i : Nat) : Int))) [.agg #[tk 0, tk 1, tk 2, tk 3, tk 4, tk 5, tk 6, tk 7]] (fun _ => by simp [eight]; rfl) (by simp [Ev.Wf, Ev.WfL, num, tk]) cfg_ev w).mono ?_
  rintro e w' ⟨rfl, hb⟩
  exact ⟨fun i => cfgC i + k i, fun i _ => by have := (hk i).2; show cfgC i ≤ cfgC i + k i ∧ cfgC i + k i ≤ cfgC i + cfgH i; omega, rfl, hb⟩
end Go.Proofs.Ytndmpdpmfieacaa

namespace Go.Proofs.Ytndmpdpmfieacaa
open Go.RowKit Go.WideShapes Go.ChangeShapes
set_option linter.all false
/-- Epochs at E of k clients in the row at R: the epoch is nought, nothing waits. -/
structure E0 (E R k : Nat) (lim : Int) (w : World) : Prop where
  c0 : w.cell? ⟨E, 0, none⟩ = some (.int .i64 0)
  c1 : w.cell? ⟨E, 1, none⟩ = some (.int .i64 lim)
  c2 : w.cell? ⟨E, 2, none⟩ = some (.slice (some ⟨R, 0, none⟩) k k)
  lists : ∀ j, j < k → w.cell? ⟨R, j * 2 + 1, none⟩ = some (.slice none 0 0)
section
variable {E R k : Nat} {lim : Int} {w w' : World}
theorem E0.same (h : E0 E R k lim w) (e1 : w'.heap[E]? = w.heap[E]?) (e2 : w'.heap[R]? = w.heap[R]?) : E0 E R k lim w' :=
  ⟨(World.cell?_of_block (a := ⟨E, 0, none⟩) e1).trans h.c0, (World.cell?_of_block (a := ⟨E, 1, none⟩) e1).trans h.c1, (World.cell?_of_block (a := ⟨E, 2, none⟩) e1).trans h.c2,
    fun j hj => (World.cell?_of_block (a := ⟨R, j * 2 + 1, none⟩) e2).trans (h.lists j hj)⟩
theorem E0.lt (h : E0 E R k lim w) : E < w.heap.size := World.block_lt_of_cell? _ _ h.c0
theorem E0.ltR (h : E0 E R k lim w) (hk : 1 ≤ k) : R < w.heap.size := World.block_lt_of_cell? _ _ (h.lists 0 (by omega))
theorem E0.on (h : E0 E R k lim w) (hk : 1 ≤ k) (hb : Below w.heap.size w w') : E0 E R k lim w' := h.same (hb.block E h.lt) (hb.block R (h.ltR hk))
set_option maxRecDepth 100000 in
theorem now0 (h : E0 E R k lim w) : Calls Try.prog 66 #[.pointer (some ⟨E, 0, none⟩)] w fun e w' => e = .returned (.int .i64 0) ∧ w' = w := by
  have c0 := h.c0
  go_enter Try.func66, Try.ntmps66
  go_wp2
  go_ret
  exact ⟨rfl, rfl⟩
end
theorem info158 : (Try.prog.info? 158).map (fun i => (i.zero, i.size, i.bytes)) = some (some (.agg #[.int .i64 0, .slice none 0 0]), 2, 32) := by kernel_rfl
/-- The row at R: no lists yet. -/
structure Row0 (R k : Nat) (w : World) : Prop where
  lists : ∀ j, j < k → w.cell? ⟨R, j * 2 + 1, none⟩ = some (.slice none 0 0)
  pins : ∀ j, j < k → ∃ u, w.cell? ⟨R, j * 2, none⟩ = some u
  free : ∀ j, w.frozen? ⟨R, j, none⟩ = false
set_option maxRecDepth 100000 in
set_option maxHeartbeats 800000 in
theorem eNew_any (k : Nat) (lim : Int) (w : World) (hk : 1 ≤ k) (hk9 : k ≤ 8) (hl : 4 ≤ lim) (hl9 : lim ≤ 64) : Calls Try.prog 63 #[.int .i64 k, .int .i64 lim] w fun e w' =>
    ∃ E, e = .returned (.tuple #[.pointer (some ⟨E, 0, none⟩), .int .i64 0]) ∧ E0 E w.heap.size k lim w' ∧ Below w.heap.size w w' ∧ w.heap.size < E := by
  obtain ⟨i0, hi0, hz0, hz1, hz2⟩ := info_parts info158
  have h1 : ¬ (k : Int) < 1 := by omega
  have h2 : ¬ (k : Int) > 8 := by omega
  have h3 : ¬ lim < 4 := by omega
  have h4 : ¬ lim > 64 := by omega
  go_enter Try.func63, Try.ntmps63
  go_wp2_with (first
    | (refine wpList_make_full _ rfl (.tmp 23) (.tmp 23) 153 rfl w.heap.size 158 i0 _ 2 Try.underlying153 hi0 hz0 hz1 .i64 .i64 _ _ k rfl rfl rfl rfl (by rw [hz2]; omega) (by unfold maxLen; omega) (Nat.le_refl _) ?_
       intro w1 hown hg1)
    | fail)
  have hb : Below w.heap.size w w1 := (Below.refl _ _).grown hg1 (Nat.le_refl _) (by simp)
  have hlt : w.heap.size < w1.heap.size := (hown.lt _ rfl).2
  have hr0 : ∀ j, j < k * 2 → w1.cell? ⟨w.heap.size, j, none⟩ = some (if j % 2 = 0 then .int .i64 0 else .slice none 0 0) := fun j hj => by
    rw [World.ownsRow.cellAt hown j (by omega)]
    unfold madeCells
    rcases Nat.mod_two_eq_zero_or_one j with h | h <;> simp [h, hj, Value.cells]
  have hfr : ∀ j, w1.frozen? ⟨w.heap.size, j, none⟩ = false := fun j => World.ownsRow.frozenAt hown j
  generalize hR : w.heap.size = R at *
  generalize hE : w1.heap.size = E at *
  have HR := Lib.hid hR
  have HE := Lib.hid hE
  clear hown hg1 hR hE
  go_loopw [32] (fun i wr => ∃ j : Nat, j ≤ k ∧ i = .int .i64 j ∧ wr.cell? ⟨E, 0, none⟩ = some (.int .i64 0) ∧ wr.frozen? ⟨E, 0, none⟩ = false ∧ wr.cell? ⟨E, 1, none⟩ = some (.int .i64 lim) ∧ wr.cell? ⟨E, 2, none⟩ = some (.slice (some ⟨R, 0, none⟩) k k) ∧ Hid (Row0 R k wr) ∧ Below R w wr) (fun i _ => k - (intOf i).toNat)
  case atStart =>
    subst E
    have hbo : ∀ o : Obj, Below w1.heap.size w1 (w1.alloc o) := fun o => (Below.refl _ _).alloc (Nat.le_refl _) o
    refine ⟨0, by omega, rfl, World.cell?_alloc_at _ _ _ _ rfl, World.frozen?_alloc_at _ _ _ _ rfl, World.cell?_alloc_at _ _ _ _ rfl, World.cell?_alloc_at _ _ _ _ rfl, Lib.hid ⟨fun j hj => ?_, fun j hj => ⟨.int .i64 0, ?_⟩, fun j => ?_⟩, hb.alloc (by omega) _⟩
    · rw [(hbo _).cell (p := ⟨R, j * 2 + 1, none⟩) hlt, hr0 _ (by omega), if_neg (by omega)]
    · rw [(hbo _).cell (p := ⟨R, j * 2, none⟩) hlt, hr0 _ (by omega), if_pos (by omega)]
    · rw [(hbo _).frozen (p := ⟨R, j, none⟩) hlt]; exact hfr _
  case round =>
    obtain ⟨j, hj, rfl, hc0, hf0, hc1, hc2, HRow, hbl⟩ := hrel
    by_cases hjk : j < k
    · obtain ⟨u, hu⟩ := HRow.out.pins j hjk
      have hf := HRow.out.free (j * 2)
      have hj1 : (j : Int) < k := by omega
      have hj0 : (0 : Int) ≤ j := by omega
      go_wp2
      go_roundw
      case rel =>
        refine ⟨j + 1, by omega, by go_num, ?_, ?_, ?_, ?_, Lib.hid ⟨fun i hi => ?_, fun i hi => ?_, fun i => ?_⟩, hbl.setCell (Nat.le_refl _) _⟩
        · exact (World.cell?_setCell_far _ _ _ _ (by show R ≠ E; omega)).trans hc0
        · rw [World.frozen?_setCell]; exact hf0
        · exact (World.cell?_setCell_far _ _ _ _ (by show R ≠ E; omega)).trans hc1
        · exact (World.cell?_setCell_far _ _ _ _ (by show R ≠ E; omega)).trans hc2
        · exact (World.cell?_setCell_other _ _ _ _ (by simp <;> omega)).trans (HRow.out.lists i hi)
        · obtain ⟨m, hm⟩ := HRow.out.pins i hi
          by_cases e : i = j
          · subst e; exact ⟨_, World.cell?_setCell_same _ _ _ hm⟩
          · exact ⟨m, (World.cell?_setCell_other _ _ _ _ (by simp [Ne.symm e])).trans hm⟩
        · rw [World.frozen?_setCell]; exact HRow.out.free i
      case measure => simp only [intOf]; omega
    · obtain rfl : j = k := by omega
      go_wp2
      go_ret2
      rw [HR.out]
      exact ⟨E, rfl, ⟨hc0, hc1, hc2, fun i hi => HRow.out.lists i hi⟩, hbl, hlt⟩
end Go.Proofs.Ytndmpdpmfieacaa

namespace Go.Proofs.Ytndmpdpmfieacaa
open Go.RowKit Go.WideShapes Go.ChangeShapes
set_option linter.all false
set_option maxRecDepth 1000000
noncomputable def wordsAt [Ev.Tok] (cells : Ev.Row) : Nat → List Int → Bool
  | _, [] => true
  | k, x :: l => Ev.veq (Ev.Tr.get undef cells k) (.int .u64 x) && wordsAt cells (k + 1) l
theorem wordsAt_spec [Ev.Tok] {cells : Ev.Row} : ∀ {k : Nat} {l : List Int}, wordsAt cells k l = true → ∀ j u, (wv l)[j]? = some u → Ev.Tr.get undef cells (k + j) = u
  | k, [], _, j, u, hu => by simp [wv] at hu
  | k, x :: l, h, j, u, hu => by
    unfold wordsAt at h
    rw [Bool.and_eq_true] at h
    cases j with
    | zero => 
      have := Ev.veq_spec _ _ h.1
      simp [wv] at hu
      rw [← hu, Nat.add_zero]; exact this
    | succ j =>
      have := wordsAt_spec h.2 j u (by simpa [wv] using hu)
      rw [← this]; congr 1; omega
/-- A call that hands back a row of words of its own. -/
noncomputable def isWords [Ev.Tok] (n : Nat) (l : List Int) : Ev.Res → Bool
  | .val (.slice (some a) m _) s => a.off == 0 && (m == n && ((s.obj a.block).live && (decide (n ≤ (s.obj a.block).len) && wordsAt (s.obj a.block).cells 0 l)))
  | _ => false
theorem calls_words [Ev.Tok] [Ev.Sym] {P : Program} {orc : Ev.Orc} (hs : Ev.SymOk P) (ho : Ev.OrcOk P orc) (hm : P.follows .mixedOrders = true) {n g m : Nat} {l : List Int} {args : List Value} (hl : l.length = m) (ha : ∀ v ∈ args, Ev.Wf 0 v) (h : isWords m l (Ev.runF P orc n (.fn g args Ev.st0)) = true) (w : World) :
    Calls P g (args.map (Ev.ren Ev.γ0)).toArray w fun e w' => ∃ A c, e = .returned (.slice (some A) m c) ∧ w.heap.size ≤ A.block ∧ Reads w' w'.heap.size 1 (some A) m (wv l) ∧ Below w.heap.size w w' := by
  rw [Ev.runF_eq] at h
  unfold isWords at h
  split at h
  case h_2 => cases h
  rename_i a m' c s hres
  simp only [Bool.and_eq_true, beq_iff_eq, decide_eq_true_eq] at h
  obtain ⟨h1, h2, h3, h4, h5⟩ := h
  subst h2
  have := (Ev.sound hs ho hm n).1.2 g args Ev.st0 _ s hres (fun k => k < w.heap.size) Ev.γ0 w (Ev.R.zero _ w) ha
  refine this.mono ?_
  rintro r w' ⟨γ, rfl, _, hR, _, hb, _⟩
  obtain ⟨cs, fz, hh, _, hsz, hcell⟩ := hR.obj a.block h3
  refine ⟨γ.at a, _, rfl, ?_, ⟨by rw [wv_len, hl, Nat.mul_one], fun _ => ⟨_, rfl, lt_of_heap hh, fun j u hu => ?_⟩⟩, hb.below⟩
  · have := hR.low a.block h3
    show w.heap.size ≤ γ.blk a.block
    omega
  · have hj : j < m' := by
      rcases Nat.lt_or_ge j m' with h | h
      · exact h
      · rw [List.getElem?_eq_none (by rw [wv_len]; omega)] at hu; cases hu
    have e1 := wordsAt_spec h5 j u hu
    rw [Nat.zero_add] at e1
    have e2 := hcell j (by omega)
    rw [e1] at e2
    have e3 : (γ.at a).add j = ⟨γ.blk a.block, γ.off a.block + j, none⟩ := by
      unfold Ev.Gh.at Addr.add
      rw [h1]
      simp
    rw [e3, cell_of hh, e2]
    obtain ⟨z, hz⟩ : ∃ z, u = .int .u64 z := by
      unfold wv at hu
      rw [List.getElem?_map] at hu
      cases hx : l[j]? with
      | none => rw [hx] at hu; cases hu
      | some z => rw [hx] at hu; injection hu with hu; exact ⟨z, hu.symm⟩
    rw [hz]; rfl
/-- An empty node of 256. -/
def node0 : Value := .agg #[.int .i64 4, .int .u64 0, .string ⟨#[]⟩, .slice none 0 0, .slice none 0 0]
def root0 : List Int := 0 :: 4 :: List.replicate 262 0
theorem enc_ev : letI : Ev.Tok := ⟨fun _ => 0, fun _ => ByteArray.empty⟩; isWords 264 root0 (@Ev.runF Ev.noSym Try.prog Ev.noOrc 40000 (.fn 64 [node0] Ev.st0)) = true := by kernel_rfl
theorem enc0 (w : World) : Calls Try.prog 64 #[node0] w fun e w' => ∃ A c, e = .returned (.slice (some A) 264 c) ∧ w.heap.size ≤ A.block ∧ Reads w' w'.heap.size 1 (some A) 264 (wv root0) ∧ Below w.heap.size w w' := by
  letI : Ev.Tok := ⟨fun _ => 0, fun _ => ByteArray.empty⟩
  letI : Ev.Sym := Ev.noSym
  exact @calls_words _ Ev.noSym Try.prog _ (Ev.noSym_ok _) Ev.noOrc_ok mixed 40000 64 264 root0 [node0] (by simp [root0]) (by simp [Ev.Wf, Ev.WfL, node0]) enc_ev w
end Go.Proofs.Ytndmpdpmfieacaa

namespace Go.Proofs.Ytndmpdpmfieacaa
open Go.RowKit Go.WideShapes Go.ChangeShapes
set_option linter.all false
/-- A memory in the box b. -/
structure MM (N b B S E R k K G : Nat) (lim root : Int) (sl : List Sl) (P I : Nat → Nat) (V : Nat → Value) (xs : Nat → List Int) (W : World) : Prop where
  box : W.heap[b]? = some (.cells #[.pointer (some ⟨B, 0, none⟩), .pointer (some ⟨E, 0, none⟩), .int .i64 root, .int .i64 (k : Nat), .int .i64 (-1)] 135 (0, 0))
  ar : Ar N B S K 5 sl P I V xs W
  ok : Ok sl xs G
  len : sl.length ≤ 1024
  cnt : ∀ c, (xs c).length ≤ 1024
  ep : E0 E R k lim W
  k1 : 1 ≤ k
  fb : ¬ Foot B S 5 sl P I V b
  fE : ¬ Foot B S 5 sl P I V E
  fR : ¬ Foot B S 5 sl P I V R
section
variable {N b B S E R k K G : Nat} {lim root : Int} {sl : List Sl} {P I : Nat → Nat} {V : Nat → Value} {xs : Nat → List Int} {w w' : World}
theorem MM.on (h : MM N b B S E R k K G lim root sl P I V xs w) (hb : Below w.heap.size w w') : MM N b B S E R k K G lim root sl P I V xs w' :=
  ⟨(hb.block b (lt_of_heap h.box)).trans h.box, h.ar.on hb, h.ok, h.len, h.cnt, h.ep.on h.k1 hb, h.k1, h.fb, h.fE, h.fR⟩
theorem MM.lt (h : MM N b B S E R k K G lim root sl P I V xs w) : b < w.heap.size := lt_of_heap h.box
/-- What a call on the arena did. -/
theorem MM.mv (h : MM N b B S E R k K G lim root sl P I V xs w) {sl' : List Sl} {V' : Nat → Value} {xs' : Nat → List Int} {G' : Nat} (ha : Ar N B S K 5 sl' P I V' xs' w') (ho : Ok sl' xs' G') (hl : sl'.length ≤ 1024) (hc : ∀ c, (xs' c).length ≤ 1024)
    (hm : Mv (Foot B S 5 sl P I V) (Foot B S 5 sl' P I V') w w') : MM N b B S E R k K G' lim root sl' P I V' xs' w' := by
  have key : ∀ a, a < w.heap.size → ¬ Foot B S 5 sl P I V a → ¬ Foot B S 5 sl' P I V' a := fun a ha hn hf => by
    rcases hm.foot a hf with h1 | h1
    · exact hn h1
    · omega
  have l1 := h.lt
  have l2 := h.ep.lt
  have l3 := h.ep.ltR h.k1
  exact ⟨(hm.block b l1 h.fb).trans h.box, ha, ho, hl, hc, h.ep.same (hm.block E l2 h.fE) (hm.block R l3 h.fR), h.k1, key b l1 h.fb, key E l2 h.fE, key R l3 h.fR⟩
end
theorem freeN_pop {xs : Nat → List Int} {c : Nat} (hc : c < 5) (hx : xs c ≠ []) : freeN (up xs c (popF (xs c))) 5 + 1 = freeN xs 5 := by
  have hp := popF_len _ hx
  have hl : 0 < (xs c).length := List.length_pos_iff.2 hx
  have : c = 0 ∨ c = 1 ∨ c = 2 ∨ c = 3 ∨ c = 4 := by omega
  rcases this with rfl | rfl | rfl | rfl | rfl <;> simp only [freeN, up, if_true, if_false, show ¬ (0 : Nat) = 1 from by decide, show ¬ (0 : Nat) = 2 from by decide, show ¬ (0 : Nat) = 3 from by decide, show ¬ (0 : Nat) = 4 from by decide, show ¬ (1 : Nat) = 0 from by decide, show ¬ (1 : Nat) = 2 from by decide, show ¬ (1 : Nat) = 3 from by decide, show ¬ (1 : Nat) = 4 from by decide, show ¬ (2 : Nat) = 0 from by decide, show ¬ (2 : Nat) = 1 from by decide, show ¬ (2 : Nat) = 3 from by decide, show ¬ (2 : Nat) = 4 from by decide, show ¬ (3 : Nat) = 0 from by decide, show ¬ (3 : Nat) = 1 from by decide, show ¬ (3 : Nat) = 2 from by decide, show ¬ (3 : Nat) = 4 from by decide, show ¬ (4 : Nat) = 0 from by decide, show ¬ (4 : Nat) = 1 from by decide, show ¬ (4 : Nat) = 2 from by decide, show ¬ (4 : Nat) = 3 from by decide] <;> omega
/-- A configuration that may be. -/
def CfgOk (g : Nat → Nat) : Prop := ∀ i, i < 8 → cfgC i ≤ g i ∧ g i ≤ cfgC i + cfgH i
def fr8 (c : Nat) (g : Nat → Nat) : Array Value := eight fun i => (g i : Nat)
/-- What a new memory is. -/
def NewM (g : Nat → Nat) (w : World) (b : Nat) (w' : World) : Prop :=
  ∃ B S E R K sl P I V xs i, MM w.heap.size b B S E R (g 5) K 1 (g 6 : Nat) (refV (i : Nat) (1 : Nat) false) sl P I V xs w' ∧ Below w.heap.size w w' ∧
    i < sl.length ∧ (sl.getD i dS).cls = 4 ∧ (sl.getD i dS).gen = 1 ∧ (sl.getD i dS).live = true ∧ (sl.getD i dS).ws = root0 ∧ freeN xs 5 + 1 = sl.length ∧ ∀ c, c < 4 → (xs c).length = g c
set_option maxRecDepth 100000 in
set_option maxHeartbeats 1600000 in
theorem mem_new (g : Nat → Nat) (hg : CfgOk g) (w : World) : Calls Try.prog 34 #[.agg (eight fun i => (g i : Nat))] w fun e w' => ∃ b, e = .returned (.tuple #[.pointer (some ⟨b, 0, none⟩), .int .i64 0]) ∧ NewM g w b w' := by
  have b0 := hg 0 (by omega)
  have b1 := hg 1 (by omega)
  have b2 := hg 2 (by omega)
  have b3 := hg 3 (by omega)
  have b4 := hg 4 (by omega)
  have b5 := hg 5 (by omega)
  have b6 := hg 6 (by omega)
  have b7 := hg 7 (by omega)
  simp only [cfgC, cfgH, if_true, if_false, show ¬ (1 : Nat) = 0 from by decide, show ¬ (2 : Nat) = 0 from by decide, show ¬ (2 : Nat) = 1 from by decide, show ¬ (3 : Nat) = 0 from by decide, show ¬ (3 : Nat) = 1 from by decide, show ¬ (3 : Nat) = 2 from by decide, show ¬ (4 : Nat) = 0 from by decide, show ¬ (4 : Nat) = 1 from by decide, show ¬ (4 : Nat) = 2 from by decide, show ¬ (4 : Nat) = 3 from by decide, show ¬ (5 : Nat) = 0 from by decide, show ¬ (5 : Nat) = 1 from by decide, show ¬ (5 : Nat) = 2 from by decide, show ¬ (5 : Nat) = 3 from by decide, show ¬ (5 : Nat) = 4 from by decide, show ¬ (6 : Nat) = 0 from by decide, show ¬ (6 : Nat) = 1 from by decide, show ¬ (6 : Nat) = 2 from by decide, show ¬ (6 : Nat) = 3 from by decide, show ¬ (6 : Nat) = 4 from by decide, show ¬ (6 : Nat) = 5 from by decide, show ¬ (7 : Nat) = 0 from by decide, show ¬ (7 : Nat) = 1 from by decide, show ¬ (7 : Nat) = 2 from by decide, show ¬ (7 : Nat) = 3 from by decide, show ¬ (7 : Nat) = 4 from by decide, show ¬ (7 : Nat) = 5 from by decide, show ¬ (7 : Nat) = 6 from by decide] at b0 b1 b2 b3 b4 b5 b6 b7
  have hsum : sumN g 5 ≤ 1024 := by simp only [sumN]; omega
  have HNEW : Hid (∀ W, Calls Try.prog 13 #[.agg #[.int .i64 (g 0 : Nat), .int .i64 (g 1 : Nat), .int .i64 (g 2 : Nat), .int .i64 (g 3 : Nat), .int .i64 (g 4 : Nat)]] W fun e w' => ∃ B S sl P I V xs, e = .returned (.tuple #[.pointer (some ⟨B, 0, none⟩), .int .i64 0]) ∧ Ar W.heap.size B S (sumN g 5) 5 sl P I V xs w' ∧ Below W.heap.size W w' ∧ Fr g 5 0 sl xs) := Lib.hid (fun W => arena_new g hsum W)
  obtain ⟨g0, hg0⟩ : ∃ x, x = g 0 := ⟨_, rfl⟩
  obtain ⟨g1, hg1⟩ : ∃ x, x = g 1 := ⟨_, rfl⟩
  obtain ⟨g2, hg2⟩ : ∃ x, x = g 2 := ⟨_, rfl⟩
  obtain ⟨g3, hg3⟩ : ∃ x, x = g 3 := ⟨_, rfl⟩
  obtain ⟨g4, hg4⟩ : ∃ x, x = g 4 := ⟨_, rfl⟩
  obtain ⟨g5, hg5⟩ : ∃ x, x = g 5 := ⟨_, rfl⟩
  obtain ⟨g6, hg6⟩ : ∃ x, x = g 6 := ⟨_, rfl⟩
  obtain ⟨g7, hg7⟩ : ∃ x, x = g 7 := ⟨_, rfl⟩
  unfold eight
  unfold NewM
  rw [← hg0] at b0
  rw [← hg1] at b1
  rw [← hg2] at b2
  rw [← hg3] at b3
  rw [← hg4] at b4
  rw [← hg5] at b5
  rw [← hg6] at b6
  rw [← hg7] at b7
  rw [← hg0, ← hg1, ← hg2, ← hg3, ← hg4] at HNEW
  simp only [← hg0, ← hg1, ← hg2, ← hg3, ← hg4, ← hg5, ← hg6, ← hg7]
  have HSUM := Lib.hid hsum
  have HC4 : Hid (∀ c, c < 4 → ∃ m, g c = m) := Lib.hid (fun c _ => ⟨_, rfl⟩)
  have HG4 := Lib.hid hg4
  clear hg hsum hg0 hg1 hg2 hg3 hg4 hg5 hg6 hg7
  have hne4 : (((g4 : Nat) : Int) == 0) = false := by simp; omega
  have hl7 : ¬ ((g7 : Nat) : Int) < 1 := by omega
  have hg7 : ¬ ((g7 : Nat) : Int) > 100 := by omega
  go_enter Try.func34, Try.ntmps34
  go_upto_region 1 with (fail)
  obtain ⟨W1, hW1⟩ : ∃ W1 : World, W1 = w.alloc (.cells #[.int .i64 (g0 : Nat), .int .i64 (g1 : Nat), .int .i64 (g2 : Nat), .int .i64 (g3 : Nat), .int .i64 (g4 : Nat), .int .i64 (g5 : Nat), .int .i64 (g6 : Nat), .int .i64 (g7 : Nat)] 72) := ⟨_, rfl⟩
  obtain ⟨c0, hc0⟩ : ∃ c0, c0 = w.heap.size := ⟨_, rfl⟩
  have hcb1 : W1.heap[c0]? = some (.cells #[.int .i64 (g0 : Nat), .int .i64 (g1 : Nat), .int .i64 (g2 : Nat), .int .i64 (g3 : Nat), .int .i64 (g4 : Nat), .int .i64 (g5 : Nat), .int .i64 (g6 : Nat), .int .i64 (g7 : Nat)] 72 (0, 0)) := by rw [hW1, hc0]; exact heap_alloc_new w _
  have hbw1 : Below w.heap.size w W1 := by rw [hW1]; exact below_alloc w _
  have hs1 : c0 < W1.heap.size := lt_of_heap hcb1
  rw [← hW1, ← hc0]
  clear hW1
  have HC0 := Lib.hid hc0
  have HCB1 := Lib.hid hcb1
  have HBW1 := Lib.hid hbw1
  have HS1 := Lib.hid hs1
  have d0 : W1.cell? ⟨c0, 0, none⟩ = some (.int .i64 (g0 : Nat)) := (cell_of hcb1 0).trans rfl
  have d1 : W1.cell? ⟨c0, 1, none⟩ = some (.int .i64 (g1 : Nat)) := (cell_of hcb1 1).trans rfl
  have d2 : W1.cell? ⟨c0, 2, none⟩ = some (.int .i64 (g2 : Nat)) := (cell_of hcb1 2).trans rfl
  have d3 : W1.cell? ⟨c0, 3, none⟩ = some (.int .i64 (g3 : Nat)) := (cell_of hcb1 3).trans rfl
  have d4 : W1.cell? ⟨c0, 4, none⟩ = some (.int .i64 (g4 : Nat)) := (cell_of hcb1 4).trans rfl
  clear hc0 hcb1 hbw1 hs1
  go_upto_region 4 with (first
    | (go_at_call 13; refine (HNEW.out _).mono ?_; rintro e w2 ⟨B, S, sl, P, I, V, xs, rfl, ha, hb2, hf⟩
       have HA := Lib.hid ha
       have HB2 := Lib.hid hb2
       have HFR := Lib.hid hf
       clear ha hb2 hf)
    | fail)
  clear d0 d1 d2 d3 d4 HNEW
  have hcb2 := (HB2.out.block c0 HS1.out).trans HCB1.out
  have d5 : w2.cell? ⟨c0, 5, none⟩ = some (.int .i64 (g5 : Nat)) := (cell_of hcb2 5).trans rfl
  have d6 : w2.cell? ⟨c0, 6, none⟩ = some (.int .i64 (g6 : Nat)) := (cell_of hcb2 6).trans rfl
  have HCB2 := Lib.hid hcb2
  clear hcb2
  go_upto_region 7 with (first
    | (go_at_call 63; refine (eNew_any g5 (g6 : Nat) w2 (by omega) (by omega) (by omega) (by omega)).mono ?_; rintro e w3 ⟨E, rfl, he, hb3, hlt⟩
       have HE := Lib.hid he
       have HB3 := Lib.hid hb3
       have HLT := Lib.hid hlt
       clear he hb3 hlt)
    | fail)
  clear d5 d6
  have hcb3 := (HB3.out.block c0 (lt_of_heap HCB2.out)).trans HCB2.out
  have d4 : w3.cell? ⟨c0, 4, none⟩ = some (.int .i64 (g4 : Nat)) := (cell_of hcb3 4).trans rfl
  have d7 : w3.cell? ⟨c0, 7, none⟩ = some (.int .i64 (g7 : Nat)) := (cell_of hcb3 7).trans rfl
  have HCB3 := Lib.hid hcb3
  clear hcb3
  go_upto_region 9 with (fail)
  clear d4 d7
  have hla := HA.out.on HB3.out
  have hok := HFR.out.ok
  have hxl : (xs 4).length = g4 := by rw [HFR.out.cnt 4, HG4.out]; rfl
  have hx4 : xs 4 ≠ [] := fun e => by rw [e] at hxl; simp at hxl; omega
  obtain ⟨i, hi, hxi, hic, hil⟩ := hok.head hx4
  have hgi := (HFR.out.all i hi).1
  have hsl : sl.length = sumN g 5 := HFR.out.len
  have HL3 := Lib.hid hla
  have HOK := Lib.hid hok
  have HXL := Lib.hid hxl
  have HX4 := Lib.hid hx4
  have HXI := Lib.hid hxi
  have HIC := Lib.hid hic
  have HGI := Lib.hid hgi
  have HSL := Lib.hid hsl
  clear hla hok hxl hx4 hxi hic hil hgi hsl
  go_upto_region 12 with (first
    | (go_at_call 64; refine (enc0 w3).mono ?_; rintro e w4 ⟨A, cA, rfl, hA, hr4, hb4⟩
       have HAB := Lib.hid hA
       have HR4 := Lib.hid hr4
       have HB4 := Lib.hid hb4
       clear hA hr4 hb4)
    | (go_at_call 23; refine (alloc_ok (HL3.out.on HB4.out) (by rw [HSL.out]; exact HSUM.out) (c := 4) (by omega) HR4.out (Nat.le_refl _) (fun ad e _ hf => by injection e with e; subst e; have := (HL3.out.foot hf).2; have := HAB.out; omega) (by decide) HX4.out (by rw [HXL.out]; omega) hi HXI.out HIC.out (by rw [HGI.out]; omega)).mono ?_
       rintro e w5 ⟨rfl, v', har, hmv⟩
       rw [HGI.out]
       have HAR := Lib.hid har
       have HMV := Lib.hid hmv
       clear har hmv)
    | fail)
  have hnc : ¬ Foot B S 5 sl P I V c0 := fun hf => by have := (HA.out.foot hf).1; have := HA.out.NS; have := HS1.out; omega
  have hcb4 := (HB4.out.block c0 (lt_of_heap HCB3.out)).trans HCB3.out
  have hcb5 := (HMV.out.block c0 (lt_of_heap hcb4) hnc).trans hcb4
  have d5 : w5.cell? ⟨c0, 5, none⟩ = some (.int .i64 (g5 : Nat)) := (cell_of hcb5 5).trans rfl
  clear hnc hcb4 hcb5
  go_wp2
  go_ret2
  have hF : ∀ b, Foot B S 5 sl P I V b → W1.heap.size ≤ b ∧ b < w2.heap.size := fun b hf => by have := HA.out.foot hf; have := HA.out.NS; omega
  have hB4 : Below w.heap.size w w4 := ((HBW1.out.trans (HB2.out.mono HBW1.out.size)).trans (HB3.out.mono (HBW1.out.trans (HB2.out.mono HBW1.out.size)).size)).trans (HB4.out.mono ((HBW1.out.trans (HB2.out.mono HBW1.out.size)).trans (HB3.out.mono (HBW1.out.trans (HB2.out.mono HBW1.out.size)).size)).size)
  have s1 := HBW1.out.size
  have s2 := HB2.out.size
  have s3 := HB3.out.size
  have s4 := HB4.out.size
  have s5 := HMV.out.size
  have hB5 := HMV.out.below hB4 (fun b hf => by have := hF b hf; omega) (Nat.le_refl _)
  have hal := below_alloc w5 (.cells #[.pointer (some ⟨B, 0, none⟩), .pointer (some ⟨E, 0, none⟩), .int .i64 (refV (i : Nat) 1 false), .int .i64 (g5 : Nat), .int .i64 (-1)] 135)
  have hE3 := HE.out.lt
  have hR3 := HE.out.ltR (by omega)
  have hlt := HLT.out
  have hF' : ∀ b, Foot B S 5 (sl.set i (made (sl.getD i dS) root0)) P I (up V 4 v') b → Foot B S 5 sl P I V b ∨ w4.heap.size ≤ b := fun b hf => HMV.out.foot b hf
  have nE : ¬ Foot B S 5 sl P I V E := fun hf => by have := hF _ hf; omega
  have nR : ¬ Foot B S 5 sl P I V w2.heap.size := fun hf => by have := hF _ hf; omega
  have hep : E0 E w2.heap.size g5 (g6 : Nat) w5 := (HE.out.on (by omega) HB4.out).same (HMV.out.block E (by omega) nE) (HMV.out.block _ (by omega) nR)
  have hcn : ∀ c, (xs c).length ≤ 1024 := fun c => by
    rw [HFR.out.cnt c]
    split
    · rename_i hc
      have h1 := sumN_mono g (show c + 1 ≤ 5 by omega)
      have h2 : sumN g (c + 1) = sumN g c + g c := rfl
      have := HSUM.out
      omega
    · split <;> omega
  refine ⟨w5.heap.size, rfl, B, S, E, w2.heap.size, sumN g 5, _, P, I, _, _, i, ⟨heap_alloc_new w5 _, ?_, HOK.out.alloc hi HX4.out HXI.out HIC.out (HL3.out.pl 4 (by omega)).nodup root0, by rw [List.length_set, HSL.out]; exact HSUM.out, fun c => ?_, hep.on (by omega) hal, by omega, fun hf => by have := (HAR.out.foot hf).2; omega, fun hf => ?_, fun hf => ?_⟩, hB5.trans (hal.mono hB5.size), by rw [List.length_set]; exact hi, ?_, ?_, ?_, ?_, ?_, fun c hc => ?_⟩
  · have h5 := HAR.out.on hal
    exact ⟨h5.box, Nat.le_trans s1 h5.NS, h5.SB, h5.row, h5.wds, h5.pl, h5.sep⟩
  · by_cases e : c = 4
    · subst e; rw [up_same, popF_len _ HX4.out]; have := hcn 4; omega
    · rw [up_other _ _ e]; exact hcn c
  · rcases hF' _ hf with h | h
    · exact nE h
    · omega
  · rcases hF' _ hf with h | h
    · exact nR h
    · omega
  · rw [getD_set hi, if_pos rfl]; exact HIC.out
  · rw [getD_set hi, if_pos rfl]; exact HGI.out
  · rw [getD_set hi, if_pos rfl]; rfl
  · rw [getD_set hi, if_pos rfl]
    show fillL (szN (sl.getD i dS).cls) root0 = root0
    rw [HIC.out]; rfl
  · rw [List.length_set, freeN_pop (by omega) HX4.out, HFR.out.free 5 (Nat.le_refl _)]; exact HSL.out.symm
  · rw [up_other _ _ (by omega), HFR.out.cnt c, if_pos (by omega)]
end Go.Proofs.Ytndmpdpmfieacaa

namespace Go.Proofs.Ytndmpdpmfieacaa
open Go.RowKit Go.WideShapes Go.ChangeShapes
set_option linter.all false
/-- A result, by value. -/
def resV (er n : Int) (ok : Bool) (A : Option Addr) (m c : Nat) : Value := .agg #[.int .i64 er, .int .i64 n, .bool ok, .slice A m c]
/-- An access, by value. -/
def accV (kd rf cl n was : Int) (A : Option Addr) (m c : Nat) : Value := .agg #[.int .i64 kd, .int .i64 rf, .int .i64 cl, .int .i64 n, .int .u64 was, .slice A m c]
theorem set4 {W : World} {b : Nat} {t : TypeId} {a0 a1 a2 a3 : Value} (h : W.heap[b]? = some (.cells #[a0, a1, a2, a3] t (0, 0))) (x0 x1 x2 x3 : Value) :
    ((((W.setCell ⟨b, 0, none⟩ x0).setCell ⟨b, 1, none⟩ x1).setCell ⟨b, 2, none⟩ x2).setCell ⟨b, 3, none⟩ x3).heap[b]? = some (.cells #[x0, x1, x2, x3] t (0, 0)) :=
  heap_setCell_same _ _ 3 _ _ x3 (heap_setCell_same _ _ 2 _ _ x2 (heap_setCell_same _ _ 1 _ _ x1 (heap_setCell_same _ _ 0 _ _ x0 h)))
theorem below4 {w W : World} {N b : Nat} (h : Below N w W) (hN : N ≤ b) (x0 x1 x2 x3 : Value) :
    Below N w ((((W.setCell ⟨b, 0, none⟩ x0).setCell ⟨b, 1, none⟩ x1).setCell ⟨b, 2, none⟩ x2).setCell ⟨b, 3, none⟩ x3) :=
  (((h.setCell (p := ⟨b, 0, none⟩) hN x0).setCell (p := ⟨b, 1, none⟩) hN x1).setCell (p := ⟨b, 2, none⟩) hN x2).setCell (p := ⟨b, 3, none⟩) hN x3
section
variable {N b B S E R k K G : Nat} {lim root : Int} {sl : List Sl} {P I : Nat → Nat} {V : Nat → Value} {xs : Nat → List Int} {w w' : World}
set_option maxRecDepth 100000 in
set_option maxHeartbeats 800000 in
theorem do_out (h : MM N b B S E R k K G lim root sl P I V xs w) (cl : Int) (hc : cl < 0 ∨ (k : Int) ≤ cl) (kd rf ac n was : Int) (A : Option Addr) (m c : Nat) :
    Calls Try.prog 35 #[.pointer (some ⟨b, 0, none⟩), .int .i64 cl, accV kd rf ac n was A m c] w fun e w' => e = .returned (resV 1 0 false none 0 0) ∧ Below w.heap.size w w' := by
  obtain ⟨W1, hW1⟩ : ∃ W1 : World, W1 = w.alloc (.cells #[.int .i64 kd, .int .i64 rf, .int .i64 ac, .int .i64 n, .int .u64 was, .slice A m c] 74) := ⟨_, rfl⟩
  have hb1 : Below w.heap.size w W1 := by rw [hW1]; exact below_alloc w _
  obtain ⟨W2, hW2⟩ : ∃ W2 : World, W2 = W1.alloc (.cells #[.int .i64 0, .int .i64 0, .bool false, .slice none 0 0] 80) := ⟨_, rfl⟩
  obtain ⟨q, hq⟩ : ∃ q, q = w.heap.size + 1 := ⟨_, rfl⟩
  have hqq : q = W1.heap.size := by rw [hW1, hq]; simp
  have hh : W2.heap[q]? = some (.cells #[.int .i64 0, .int .i64 0, .bool false, .slice none 0 0] 80 (0, 0)) := by rw [hW2, hqq]; exact heap_alloc_new W1 _
  have hb2 : Below w.heap.size w W2 := by rw [hW2]; exact hb1.trans ((below_alloc W1 _).mono hb1.size)
  have hm3 : W2.cell? ⟨b, 3, none⟩ = some (.int .i64 (k : Nat)) := (hb2.cell (p := ⟨b, 3, none⟩) h.lt).trans ((cell_of h.box 3).trans rfl)
  have hqs : w.heap.size ≤ q := by omega
  have HW1 := Lib.hid hW1
  have HW2 := Lib.hid hW2
  have HQ := Lib.hid hq
  have HB2 := Lib.hid hb2
  have HH := Lib.hid hh
  have HQS := Lib.hid hqs
  have q0 : W2.cell? ⟨q, 0, none⟩ = some (.int .i64 0) := (cell_of hh 0).trans rfl
  have q1 : W2.cell? ⟨q, 1, none⟩ = some (.int .i64 0) := (cell_of hh 1).trans rfl
  have q2 : W2.cell? ⟨q, 2, none⟩ = some (.bool false) := (cell_of hh 2).trans rfl
  have q3 : W2.cell? ⟨q, 3, none⟩ = some (.slice none 0 0) := (cell_of hh 3).trans rfl
  have f0 := frozen_of hh 0
  have f1 := frozen_of hh 1
  have f2 := frozen_of hh 2
  have f3 := frozen_of hh 3
  clear h hb1 hb2 hh hW1 hW2 hq hqs hqq
  unfold accV
  go_enter Try.func35, Try.ntmps35
  go_upto_region 1 with (fail)
  rw [← HW1.out, ← HW2.out, ← HQ.out]
  rcases hc with hc | hc
  all_goals
    go_wp2
    have hh := set4 HH.out (.int .i64 1) (.int .i64 0) (.bool false) (.slice none 0 0)
    have hb := below4 HB2.out (Nat.le_of_lt (Nat.lt_of_lt_of_le (Nat.lt_succ_self _) (Nat.le_of_eq HQ.out.symm))) (.int .i64 1) (.int .i64 0) (.bool false) (.slice none 0 0)
    generalize ((((W2.setCell ⟨q, 0, none⟩ (.int .i64 1)).setCell ⟨q, 1, none⟩ (.int .i64 0)).setCell ⟨q, 2, none⟩ (.bool false)).setCell ⟨q, 3, none⟩ (.slice none 0 0)) = W3 at *
    have e0 : W3.cell? ⟨q, 0, none⟩ = some (.int .i64 1) := (cell_of hh 0).trans rfl
    have e1 : W3.cell? ⟨q, 1, none⟩ = some (.int .i64 0) := (cell_of hh 1).trans rfl
    have e2 : W3.cell? ⟨q, 2, none⟩ = some (.bool false) := (cell_of hh 2).trans rfl
    have e3 : W3.cell? ⟨q, 3, none⟩ = some (.slice none 0 0) := (cell_of hh 3).trans rfl
    exact bodyPost_ret (v := resV 1 0 false none 0 0) (by simp [results, Try.results35, go_sem, e0, e1, e2, e3, resV]) rfl ⟨rfl, hb⟩
set_option maxRecDepth 100000 in
set_option maxHeartbeats 800000 in
/-- What is no access. -/
theorem perf_bad (b : Nat) (cl : Int) (kd rf ac n was : Int) (A : Option Addr) (m c : Nat) (hk : kd < 1 ∨ 15 < kd) (w : World) :
    Calls Try.prog 65 #[.pointer (some ⟨b, 0, none⟩), .int .i64 cl, accV kd rf ac n was A m c] w fun e w' => e = .returned (resV 1 0 false none 0 0) ∧ Below w.heap.size w w' := by
  obtain ⟨W1, hW1⟩ : ∃ W1 : World, W1 = w.alloc (.cells #[.int .i64 kd, .int .i64 rf, .int .i64 ac, .int .i64 n, .int .u64 was, .slice A m c] 74) := ⟨_, rfl⟩
  have hb1 : Below w.heap.size w W1 := by rw [hW1]; exact below_alloc w _
  have hh1 : W1.heap[w.heap.size]? = some (.cells #[.int .i64 kd, .int .i64 rf, .int .i64 ac, .int .i64 n, .int .u64 was, .slice A m c] 74 (0, 0)) := by rw [hW1]; exact heap_alloc_new w _
  obtain ⟨W2, hW2⟩ : ∃ W2 : World, W2 = W1.alloc (.cells #[.int .i64 0, .int .i64 0, .bool false, .slice none 0 0] 80) := ⟨_, rfl⟩
  obtain ⟨q, hq⟩ : ∃ q, q = w.heap.size + 1 := ⟨_, rfl⟩
  have hqq : q = W1.heap.size := by rw [hW1, hq]; simp
  have hh : W2.heap[q]? = some (.cells #[.int .i64 0, .int .i64 0, .bool false, .slice none 0 0] 80 (0, 0)) := by rw [hW2, hqq]; exact heap_alloc_new W1 _
  have hb2 : Below w.heap.size w W2 := by rw [hW2]; exact hb1.trans ((below_alloc W1 _).mono hb1.size)
  have hh2 : W2.heap[w.heap.size]? = some (.cells #[.int .i64 kd, .int .i64 rf, .int .i64 ac, .int .i64 n, .int .u64 was, .slice A m c] 74 (0, 0)) := by rw [hW2]; exact ((below_alloc W1 _).block _ (lt_of_heap hh1)).trans hh1
  have k0 : W2.cell? ⟨w.heap.size, 0, none⟩ = some (.int .i64 kd) := (cell_of hh2 0).trans rfl
  have HW1 := Lib.hid hW1
  have HW2 := Lib.hid hW2
  have HQ := Lib.hid hq
  have HB2 := Lib.hid hb2
  have hh3 := heap_setCell_same _ _ 0 _ _ (.int .i64 1) hh
  have HH3 := Lib.hid hh3
  have hb3 := hb2.setCell (p := ⟨q, 0, none⟩) (by show w.heap.size ≤ q; omega) (.int .i64 1)
  have HB3 := Lib.hid hb3
  have HQL : Hid (w.heap.size ≤ q) := Lib.hid (by omega)
  have q0 : W2.cell? ⟨q, 0, none⟩ = some (.int .i64 0) := (cell_of hh 0).trans rfl
  have q1 : W2.cell? ⟨q, 1, none⟩ = some (.int .i64 0) := (cell_of hh 1).trans rfl
  have q2 : W2.cell? ⟨q, 2, none⟩ = some (.bool false) := (cell_of hh 2).trans rfl
  have q3 : W2.cell? ⟨q, 3, none⟩ = some (.slice none 0 0) := (cell_of hh 3).trans rfl
  have f0 := frozen_of hh 0
  have f1 := frozen_of hh 1
  have f2 := frozen_of hh 2
  have f3 := frozen_of hh 3
  have n1 : (kd == 1) = false := by simp; omega
  have n2 : (kd == 2) = false := by simp; omega
  have n3 : (kd == 3) = false := by simp; omega
  have n4 : (kd == 4) = false := by simp; omega
  have n5 : (kd == 5) = false := by simp; omega
  have n6 : (kd == 6) = false := by simp; omega
  have n7 : (kd == 7) = false := by simp; omega
  have n8 : (kd == 8) = false := by simp; omega
  have n9 : (kd == 9) = false := by simp; omega
  have n10 : (kd == 10) = false := by simp; omega
  have n11 : (kd == 11) = false := by simp; omega
  have n12 : (kd == 12) = false := by simp; omega
  have n13 : (kd == 13) = false := by simp; omega
  have n14 : (kd == 14) = false := by simp; omega
  have n15 : (kd == 15) = false := by simp; omega
  clear hk hb1 hb2 hh hh1 hh2 hh3 hb3 hW1 hW2 hq hqq
  unfold accV
  go_enter Try.func65, Try.ntmps65
  go_upto_region 1 with (fail)
  rw [← HW1.out, ← HW2.out, ← HQ.out]
  go_wp2
  have hh := set4 HH3.out (.int .i64 1) (.int .i64 0) (.bool false) (.slice none 0 0)
  have hb := below4 HB3.out HQL.out (.int .i64 1) (.int .i64 0) (.bool false) (.slice none 0 0)
  generalize (((((W2.setCell ⟨q, 0, none⟩ (.int .i64 1)).setCell ⟨q, 0, none⟩ (.int .i64 1)).setCell ⟨q, 1, none⟩ (.int .i64 0)).setCell ⟨q, 2, none⟩ (.bool false)).setCell ⟨q, 3, none⟩ (.slice none 0 0)) = W3 at *
  have e0 : W3.cell? ⟨q, 0, none⟩ = some (.int .i64 1) := (cell_of hh 0).trans rfl
  have e1 : W3.cell? ⟨q, 1, none⟩ = some (.int .i64 0) := (cell_of hh 1).trans rfl
  have e2 : W3.cell? ⟨q, 2, none⟩ = some (.bool false) := (cell_of hh 2).trans rfl
  have e3 : W3.cell? ⟨q, 3, none⟩ = some (.slice none 0 0) := (cell_of hh 3).trans rfl
  exact bodyPost_ret (v := resV 1 0 false none 0 0) (by simp [results, Try.results65, go_sem, e0, e1, e2, e3, resV]) rfl ⟨rfl, hb⟩
end
end Go.Proofs.Ytndmpdpmfieacaa

namespace Go.Proofs.Ytndmpdpmfieacaa
open Go.RowKit Go.WideShapes Go.ChangeShapes
set_option linter.all false
/-- All but the blocks from lo up to hi is as it was. -/
structure Al (lo hi : Nat) (w w' : World) : Prop where
  os : w'.os = w.os
  tape : w'.tape = w.tape
  output : w'.output = w.output
  size : w.heap.size ≤ w'.heap.size
  block : ∀ a, a < w.heap.size → (a < lo ∨ hi ≤ a) → w'.heap[a]? = w.heap[a]?
theorem Al.refl (lo hi : Nat) (w : World) : Al lo hi w w := ⟨rfl, rfl, rfl, Nat.le_refl _, fun _ _ _ => rfl⟩
theorem Al.trans {lo hi : Nat} {w w1 w2 : World} (h : Al lo hi w w1) (h' : Al lo hi w1 w2) : Al lo hi w w2 :=
  ⟨h'.os.trans h.os, h'.tape.trans h.tape, h'.output.trans h.output, Nat.le_trans h.size h'.size, fun a ha ho => (h'.block a (Nat.lt_of_lt_of_le ha h.size) ho).trans (h.block a ha ho)⟩
theorem Al.wide {lo hi lo' hi' : Nat} {w w' : World} (h : Al lo hi w w') (h1 : lo' ≤ lo) (h2 : hi ≤ hi') : Al lo' hi' w w' := ⟨h.os, h.tape, h.output, h.size, fun a ha ho => h.block a ha (by omega)⟩
theorem Al.set {lo hi : Nat} {w w' : World} (h : Al lo hi w w') {a : Addr} (h1 : lo ≤ a.block) (h2 : a.block < hi) (u : Value) : Al lo hi w (w'.setCell a u) :=
  ⟨h.os, h.tape, h.output, by simpa using h.size, fun x hx ho => (heap_far _ _ _ (by omega)).trans (h.block x hx ho)⟩
theorem Al.of_below {lo hi : Nat} {w w' : World} (h : Below w.heap.size w w') : Al lo hi w w' := ⟨h.os, h.tape, h.output, h.size, fun a ha _ => h.block a ha⟩
theorem Al.below {lo hi M : Nat} {w0 w w' : World} (h : Al lo hi w w') (hb : Below M w0 w) (hM : M ≤ lo) (h0 : M ≤ w.heap.size) : Below M w0 w' :=
  ⟨h.os.trans hb.os, h.tape.trans hb.tape, h.output.trans hb.output, Nat.le_trans hb.size h.size, fun a ha => (h.block a (by omega) (by omega)).trans (hb.block a ha)⟩
theorem Al.set4 {lo hi q : Nat} {w w' : World} (h : Al lo hi w w') (h1 : lo ≤ q) (h2 : q < hi) (y0 y1 y2 y3 : Value) :
    Al lo hi w ((((w'.setCell ⟨q, 0, none⟩ y0).setCell ⟨q, 1, none⟩ y1).setCell ⟨q, 2, none⟩ y2).setCell ⟨q, 3, none⟩ y3) :=
  (((h.set (a := ⟨q, 0, none⟩) h1 h2 y0).set (a := ⟨q, 1, none⟩) h1 h2 y1).set (a := ⟨q, 2, none⟩) h1 h2 y2).set (a := ⟨q, 3, none⟩) h1 h2 y3
section
variable {N b B S E R k K G : Nat} {lim root : Int} {sl : List Sl} {P I : Nat → Nat} {V : Nat → Value} {xs : Nat → List Int} {w w' : World}
theorem MM.al {lo hi : Nat} (h : MM N b B S E R k K G lim root sl P I V xs w) (ha : Al lo hi w w') (hq : ∀ a, Foot B S 5 sl P I V a → a < lo ∨ hi ≤ a) (h1 : b < lo ∨ hi ≤ b) (h2 : E < lo ∨ hi ≤ E) (h3 : R < lo ∨ hi ≤ R) : MM N b B S E R k K G lim root sl P I V xs w' :=
  ⟨(ha.block b h.lt h1).trans h.box, h.ar.same fun a hf => ha.block a (h.ar.foot hf).2 (hq a hf), h.ok, h.len, h.cnt, h.ep.same (ha.block E h.ep.lt h2) (ha.block R (h.ep.ltR h.k1) h3), h.k1, h.fb, h.fE, h.fR⟩
set_option maxRecDepth 100000 in
set_option maxHeartbeats 1600000 in
theorem do_in {X : Int → Int → Bool → Option Addr → Nat → Nat → World → Prop} {hold : Int} (hbox : w.heap[b]? = some (.cells #[.pointer (some ⟨B, 0, none⟩), .pointer (some ⟨E, 0, none⟩), .int .i64 root, .int .i64 (k : Nat), .int .i64 hold] 135 (0, 0))) (j : Nat) (hj : j < k) (kd rf ac n was : Int) (A : Option Addr) (m c : Nat)
    (hp : ∀ W, Below w.heap.size w W → W.heap.size = w.heap.size + 2 → Calls Try.prog 65 #[.pointer (some ⟨b, 0, none⟩), .int .i64 (j : Nat), accV kd rf ac n was A m c] W fun e w' => ∃ er z ok A' m' c', e = .returned (resV er z ok A' m' c') ∧ W.heap.size ≤ w'.heap.size ∧ w'.heap[w.heap.size + 1]? = W.heap[w.heap.size + 1]? ∧ X er z ok A' m' c' w')
    (hX : ∀ er z ok A' m' c' w' w'', X er z ok A' m' c' w' → Al w.heap.size (w.heap.size + 2) w' w'' → w.heap.size + 2 ≤ w'.heap.size → X er z ok A' m' c' w'') :
    Calls Try.prog 35 #[.pointer (some ⟨b, 0, none⟩), .int .i64 (j : Nat), accV kd rf ac n was A m c] w fun e w' => ∃ er z ok A' m' c', e = .returned (if er = 0 then resV 0 z ok A' m' c' else resV er 0 false none 0 0) ∧ w.heap.size ≤ w'.heap.size ∧ X er z ok A' m' c' w' := by
  obtain ⟨W1, hW1⟩ : ∃ W1 : World, W1 = w.alloc (.cells #[.int .i64 kd, .int .i64 rf, .int .i64 ac, .int .i64 n, .int .u64 was, .slice A m c] 74) := ⟨_, rfl⟩
  have hb1 : Below w.heap.size w W1 := by rw [hW1]; exact below_alloc w _
  have hh1 : W1.heap[w.heap.size]? = some (.cells #[.int .i64 kd, .int .i64 rf, .int .i64 ac, .int .i64 n, .int .u64 was, .slice A m c] 74 (0, 0)) := by rw [hW1]; exact heap_alloc_new w _
  obtain ⟨W2, hW2⟩ : ∃ W2 : World, W2 = W1.alloc (.cells #[.int .i64 0, .int .i64 0, .bool false, .slice none 0 0] 80) := ⟨_, rfl⟩
  obtain ⟨q, hq⟩ : ∃ q, q = w.heap.size + 1 := ⟨_, rfl⟩
  have hqq : q = W1.heap.size := by rw [hW1, hq]; simp
  have hs2 : W2.heap.size = w.heap.size + 2 := by rw [hW2]; simp; omega
  have hh : W2.heap[q]? = some (.cells #[.int .i64 0, .int .i64 0, .bool false, .slice none 0 0] 80 (0, 0)) := by rw [hW2, hqq]; exact heap_alloc_new W1 _
  have hb2 : Below w.heap.size w W2 := by rw [hW2]; exact hb1.trans ((below_alloc W1 _).mono hb1.size)
  have hh2 : W2.heap[w.heap.size]? = some (.cells #[.int .i64 kd, .int .i64 rf, .int .i64 ac, .int .i64 n, .int .u64 was, .slice A m c] 74 (0, 0)) := by rw [hW2]; exact ((below_alloc W1 _).block _ (lt_of_heap hh1)).trans hh1
  have k0 : W2.cell? ⟨w.heap.size, 0, none⟩ = some (.int .i64 kd) := (cell_of hh2 0).trans rfl
  have k1 : W2.cell? ⟨w.heap.size, 1, none⟩ = some (.int .i64 rf) := (cell_of hh2 1).trans rfl
  have k2 : W2.cell? ⟨w.heap.size, 2, none⟩ = some (.int .i64 ac) := (cell_of hh2 2).trans rfl
  have k3 : W2.cell? ⟨w.heap.size, 3, none⟩ = some (.int .i64 n) := (cell_of hh2 3).trans rfl
  have k4 : W2.cell? ⟨w.heap.size, 4, none⟩ = some (.int .u64 was) := (cell_of hh2 4).trans rfl
  have k5 : W2.cell? ⟨w.heap.size, 5, none⟩ = some (.slice A m c) := (cell_of hh2 5).trans rfl
  have hm3 : W2.cell? ⟨b, 3, none⟩ = some (.int .i64 (k : Nat)) := (hb2.cell (p := ⟨b, 3, none⟩) (lt_of_heap hbox)).trans ((cell_of hbox 3).trans rfl)
  have hjn : ¬ ((j : Nat) : Int) < 0 := by omega
  have hjk : ¬ ((j : Nat) : Int) ≥ k := by omega
  have HC := Lib.hid (hp W2 hb2 hs2)
  rw [← hq] at HC
  have HX := Lib.hid hX
  have HW1 := Lib.hid hW1
  have HW2 := Lib.hid hW2
  have HQ := Lib.hid hq
  have HS2 := Lib.hid hs2
  have HH := Lib.hid hh
  have hqs : w.heap.size ≤ q := by omega
  have hql : q < W2.heap.size := by omega
  have HQL := Lib.hid hql
  clear hbox hp hX hb1 hb2 hh hh1 hh2 hW1 hW2 hq hqq hs2 hqs hql
  unfold accV at HC ⊢
  go_enter Try.func35, Try.ntmps35
  go_upto_region 1 with (fail)
  rw [← HW1.out, ← HW2.out, ← HQ.out]
  go_upto_region 4 with (first
    | (go_at_call 65; refine HC.out.mono ?_; rintro e w3 ⟨er, z, ok, A', m', c', rfl, hsz, hqe, hx⟩
       have HQE := Lib.hid (hqe.trans HH.out)
       have HXX := Lib.hid hx
       have HSZ := Lib.hid hsz
       clear hsz hqe hx k0 k1 k2 k3 k4 k5 hm3
       unfold resV)
    | fail)
  obtain ⟨w4, hw4⟩ : ∃ w4 : World, w4 = w3.alloc (.cells #[.int .i64 er, .int .i64 z, .bool ok, .slice A' m' c'] 80) := ⟨_, rfl⟩
  obtain ⟨r, hr⟩ : ∃ r, r = w3.heap.size := ⟨_, rfl⟩
  have hh4 : w4.heap[r]? = some (.cells #[.int .i64 er, .int .i64 z, .bool ok, .slice A' m' c'] 80 (0, 0)) := by rw [hw4, hr]; exact heap_alloc_new w3 _
  have hhq : w4.heap[q]? = some (.cells #[.int .i64 0, .int .i64 0, .bool false, .slice none 0 0] 80 (0, 0)) := by rw [hw4]; exact ((below_alloc w3 _).block q (by have := HSZ.out; have := HQL.out; omega)).trans HQE.out
  have e0 : w4.cell? ⟨r, 0, none⟩ = some (.int .i64 er) := (cell_of hh4 0).trans rfl
  have e1 : w4.cell? ⟨r, 1, none⟩ = some (.int .i64 z) := (cell_of hh4 1).trans rfl
  have e2 : w4.cell? ⟨r, 2, none⟩ = some (.bool ok) := (cell_of hh4 2).trans rfl
  have e3 : w4.cell? ⟨r, 3, none⟩ = some (.slice A' m' c') := (cell_of hh4 3).trans rfl
  have q0 : w4.cell? ⟨q, 0, none⟩ = some (.int .i64 0) := (cell_of hhq 0).trans rfl
  have q1 : w4.cell? ⟨q, 1, none⟩ = some (.int .i64 0) := (cell_of hhq 1).trans rfl
  have q2 : w4.cell? ⟨q, 2, none⟩ = some (.bool false) := (cell_of hhq 2).trans rfl
  have q3 : w4.cell? ⟨q, 3, none⟩ = some (.slice none 0 0) := (cell_of hhq 3).trans rfl
  have f0 := frozen_of hhq 0
  have f1 := frozen_of hhq 1
  have f2 := frozen_of hhq 2
  have f3 := frozen_of hhq 3
  rw [← hw4, ← hr]
  have HHQ := Lib.hid hhq
  have HAL : Hid (∀ y0 y1 y2 y3, Al w.heap.size (w.heap.size + 2) w3 ((((w4.setCell ⟨q, 0, none⟩ y0).setCell ⟨q, 1, none⟩ y1).setCell ⟨q, 2, none⟩ y2).setCell ⟨q, 3, none⟩ y3)) := Lib.hid (fun y0 y1 y2 y3 => by rw [hw4]; exact Al.set4 (Al.of_below (below_alloc w3 _)) (by have := HQ.out; omega) (by have := HQ.out; omega) y0 y1 y2 y3)
  clear hhq hh4 hw4 hr
  have HS3 : Hid (w.heap.size + 2 ≤ w3.heap.size) := Lib.hid (by have := HSZ.out; have := HS2.out; omega)
  by_cases hz : er = 0
  · subst hz
    go_wp2
    have hh := set4 HHQ.out (.int .i64 0) (.int .i64 z) (.bool ok) (.slice A' m' c')
    have hal := HAL.out (.int .i64 0) (.int .i64 z) (.bool ok) (.slice A' m' c')
    generalize ((((w4.setCell ⟨q, 0, none⟩ (.int .i64 0)).setCell ⟨q, 1, none⟩ (.int .i64 z)).setCell ⟨q, 2, none⟩ (.bool ok)).setCell ⟨q, 3, none⟩ (.slice A' m' c')) = W5 at *
    have p0 : W5.cell? ⟨q, 0, none⟩ = some (.int .i64 0) := (cell_of hh 0).trans rfl
    have p1 : W5.cell? ⟨q, 1, none⟩ = some (.int .i64 z) := (cell_of hh 1).trans rfl
    have p2 : W5.cell? ⟨q, 2, none⟩ = some (.bool ok) := (cell_of hh 2).trans rfl
    have p3 : W5.cell? ⟨q, 3, none⟩ = some (.slice A' m' c') := (cell_of hh 3).trans rfl
    exact bodyPost_ret (v := resV 0 z ok A' m' c') (by simp [results, Try.results35, go_sem, p0, p1, p2, p3, resV]) rfl ⟨0, z, ok, A', m', c', rfl, by have := hal.size; have := HS3.out; omega, HX.out _ _ _ _ _ _ _ _ HXX.out hal HS3.out⟩
  · have hne : (er != 0) = true := by simpa using hz
    go_wp2
    have hh := set4 HHQ.out (.int .i64 er) (.int .i64 0) (.bool false) (.slice none 0 0)
    have hal := HAL.out (.int .i64 er) (.int .i64 0) (.bool false) (.slice none 0 0)
    generalize ((((w4.setCell ⟨q, 0, none⟩ (.int .i64 er)).setCell ⟨q, 1, none⟩ (.int .i64 0)).setCell ⟨q, 2, none⟩ (.bool false)).setCell ⟨q, 3, none⟩ (.slice none 0 0)) = W5 at *
    have p0 : W5.cell? ⟨q, 0, none⟩ = some (.int .i64 er) := (cell_of hh 0).trans rfl
    have p1 : W5.cell? ⟨q, 1, none⟩ = some (.int .i64 0) := (cell_of hh 1).trans rfl
    have p2 : W5.cell? ⟨q, 2, none⟩ = some (.bool false) := (cell_of hh 2).trans rfl
    have p3 : W5.cell? ⟨q, 3, none⟩ = some (.slice none 0 0) := (cell_of hh 3).trans rfl
    exact bodyPost_ret (v := resV er 0 false none 0 0) (by simp [results, Try.results35, go_sem, p0, p1, p2, p3, resV]) rfl ⟨er, z, ok, A', m', c', by rw [if_neg hz], by have := hal.size; have := HS3.out; omega, HX.out _ _ _ _ _ _ _ _ HXX.out hal HS3.out⟩
end
end Go.Proofs.Ytndmpdpmfieacaa
