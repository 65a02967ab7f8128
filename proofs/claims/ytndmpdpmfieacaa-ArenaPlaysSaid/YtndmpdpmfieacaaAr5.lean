/-
  Load, Store, Swap; conditions: few slots.
-/
import Derived.Test.YtndmpdpmfieacaaAr4
import Derived.Deep.OwnRows
namespace Go.Proofs.Ytndmpdpmfieacaa
open Go.RowKit Go.WideShapes Go.ChangeShapes
set_option linter.all false
/-- What a call did: of the old blocks only F's have turned; F' is F and what is new. -/
structure Mv (F F' : Nat → Prop) (w w' : World) : Prop where
  os : w'.os = w.os
  tape : w'.tape = w.tape
  output : w'.output = w.output
  size : w.heap.size ≤ w'.heap.size
  block : ∀ b, b < w.heap.size → ¬ F b → w'.heap[b]? = w.heap[b]?
  foot : ∀ b, F' b → F b ∨ w.heap.size ≤ b
theorem Mv.refl (F : Nat → Prop) (w : World) : Mv F F w w := ⟨rfl, rfl, rfl, Nat.le_refl _, fun _ _ _ => rfl, fun _ h => .inl h⟩
theorem Mv.trans {F F' F'' : Nat → Prop} {w w' w'' : World} (h : Mv F F' w w') (h' : Mv F' F'' w' w'') : Mv F F'' w w'' :=
  ⟨h'.os.trans h.os, h'.tape.trans h.tape, h'.output.trans h.output, Nat.le_trans h.size h'.size, fun b hb hf => (h'.block b (Nat.lt_of_lt_of_le hb h.size) (fun hf' => by rcases h.foot b hf' with h1 | h1; exact hf h1; omega)).trans (h.block b hb hf),
    fun b hb => by
      rcases h'.foot b hb with h1 | h1
      · exact h.foot b h1
      · exact .inr (Nat.le_trans h.size h1)⟩
theorem Mv.of_below {F : Nat → Prop} {w w' : World} (h : Below w.heap.size w w') : Mv F F w w' := ⟨h.os, h.tape, h.output, h.size, fun b hb _ => h.block b hb, fun _ hf => .inl hf⟩
theorem Mv.below {F F' : Nat → Prop} {N : Nat} {W w w' : World} (h : Mv F F' w w') (hb : Below N W w) (hF : ∀ b, F b → N ≤ b) (hN : N ≤ W.heap.size) : Below N W w' :=
  ⟨h.os.trans hb.os, h.tape.trans hb.tape, h.output.trans hb.output, Nat.le_trans hb.size h.size, fun b hbn => (h.block b (by have := hb.size; omega) (fun hf => by have := hF b hf; omega)).trans (hb.block b hbn)⟩
section
variable {N B S k q : Nat} {sl : List Sl} {P I : Nat → Nat} {V : Nat → Value} {xs : Nat → List Int} {w w' : World}
theorem foot_set {i : Nat} (hi : i < sl.length) {s : Sl} (hb : s.blk = (sl.getD i dS).blk) {b : Nat} (h : Foot B S q (sl.set i s) P I V b) : Foot B S q sl P I V b := by
  rcases h with h | h | ⟨j, hj, h⟩ | h
  · exact .inl h
  · exact .inr (.inl h)
  · rw [List.length_set] at hj
    rw [getD_set hi] at h
    refine .inr (.inr (.inl ⟨j, hj, ?_⟩))
    split at h
    · rename_i e; rw [h, hb, e]
    · exact h
  · exact .inr (.inr (.inr h))
theorem Mv.of_grown {F F' : Nat → Prop} {b : Nat} (h : w.grownBy w' (some b)) (hF : F b) (hf : ∀ x, F' x → F x ∨ w.heap.size ≤ x) : Mv F F' w w' :=
  ⟨h.os, h.tape, h.output, h.size, fun x hx hn => h.block x hx (fun e => by injection e with e; exact hn (e ▸ hF)), hf⟩
theorem Mv.of_set {F F' : Nat → Prop} {a : Addr} {u : Value} (hF : F a.block) (hf : ∀ x, F' x → F x) : Mv F F' w (w.setCell a u) :=
  ⟨rfl, rfl, rfl, by simp, fun x hx hn => heap_far w a u (fun e => hn (e ▸ hF)), fun x hx => .inl (hf x hx)⟩
theorem load_no (h : Ar N B S k q sl P I V xs w) (hn : sl.length ≤ 1024) {r : Int} {z : Nat} (hw : Why sl r z) :
    Calls Try.prog 16 #[.pointer (some ⟨B, 0, none⟩), .int .i64 r] w fun e w' => e = .returned (.tuple #[.slice none 0 0, .int .i64 (z : Nat)]) ∧ w' = w := by
  have hz : z = 1 ∨ z = 3 ∨ z = 4 := by cases hw <;> simp
  have hs := slot_no h hn hw
  clear h
  rcases hz with rfl | rfl | rfl
  all_goals
    go_enter Try.func16, Try.ntmps16
    go_wp2_with (first
      | (go_at_call 51; refine hs.mono ?_; rintro e w' ⟨rfl, rfl⟩)
      | fail)
    go_ret2
    exact ⟨rfl, rfl⟩
theorem info35b : (Try.prog.info? 35).map (fun i => (i.zero, i.size, i.bytes)) = some (some (.int .u64 0), 1, 8) := by kernel_rfl
theorem made_len (n : Nat) : (madeCells #[Value.int .u64 0] n).toList.length = n := by simp [madeCells]
theorem Below.of_grown {w w1 W : World} {o : Obj} {b : Nat} (h : (w.alloc o).grownBy W (some b)) (hb : b = w.heap.size) : Below w.heap.size w W := by
  subst hb
  exact ⟨h.os, h.tape, h.output, by have := h.size; simp at this; omega, fun x hx => (h.block x (by simp; omega) (fun e => by injection e with e; omega)).trans (Below.heap_alloc w o x hx)⟩
set_option maxRecDepth 100000 in
theorem load_ok (h : Ar N B S k q sl P I V xs w) (hn : sl.length ≤ 1024) {r : Int} {i : Nat} (hw : Live sl r i) :
    Calls Try.prog 16 #[.pointer (some ⟨B, 0, none⟩), .int .i64 r] w fun e w' => ∃ b, e = .returned (.tuple #[.slice (some ⟨b, 0, none⟩) (szN (sl.getD i dS).cls) (szN (sl.getD i dS).cls), .int .i64 0]) ∧
      w'.heap[b]? = some (.cells (wv (sl.getD i dS).ws).toArray 35 (0, 0)) ∧ w.heap.size ≤ b ∧ Below w.heap.size w w' := by
  have hs := slot_ok h hn hw
  have c3 := h.row.c3 i hw.lt
  obtain ⟨h1, h2, h3, h4⟩ := h.wds i hw.lt
  have hle := szN_le (sl.getD i dS).cls
  have hlb := lt_of_heap h1
  have hlS := h.row.lt
  generalize szN (sl.getD i dS).cls = n at *
  generalize (sl.getD i dS).ws = l at *
  generalize (sl.getD i dS).blk = g at *
  have hmk := fun w => run_make_row' (P := Try.prog) 30 35 (.int .u64 0) 8 Try.underlying30 info35b rfl .i64 .i64 n (by omega) (by omega) w
  obtain ⟨W0, hW0⟩ : ∃ W0, W0 = w.alloc (.cells (madeCells #[.int .u64 0] n) 35) := ⟨_, rfl⟩
  have h10 : W0.heap[g]? = some (.cells (wv l).toArray 35 (0, 0)) := by rw [hW0]; exact (Below.heap_alloc w _ g hlb).trans h1
  obtain ⟨W1, hc1, hb1, hg1⟩ := copy_ex 3 w.heap.size n n n W0.heap.size (some ⟨g, 0, none⟩) l (madeCells #[.int .u64 0] n).toList W0 (by rw [hW0]; simpa using heap_alloc_new w (.cells (madeCells #[.int .u64 0] n) 35)) (made_len n)
    ⟨by rw [wv_len, h2]; simp, fun _ => ⟨_, rfl, lt_of_heap h10, fun j u hu => by
      have : (⟨g, 0, none⟩ : Addr).add j = ⟨g, j, none⟩ := by simp [Addr.add]; intro e; exact e.symm
      rw [this, cell_of h10]; simpa using hu⟩⟩ (Nat.le_refl _)
  have c30 : W0.cell? ⟨S, i * 4 + 3, none⟩ = some (.slice (some ⟨g, 0, none⟩) n n) := by rw [hW0]; exact (World.cell?_of_block (a := ⟨S, i * 4 + 3, none⟩) (Below.heap_alloc w _ S hlS)).trans c3
  rw [hW0] at hg1
  have HB := Lib.hid hb1
  have HG := Lib.hid (Below.of_grown (w1 := w) hg1 rfl)
  have HD : Hid ((madeCells #[Value.int .u64 0] n).toList.drop n = []) := Lib.hid (List.drop_eq_nil_of_le (by rw [made_len]; exact Nat.le_refl _))
  have H0 := Lib.hid hW0
  rw [hW0] at hc1 c30
  clear h h3 h4 hb1 hg1 hW0 h10 h1
  go_enter Try.func16, Try.ntmps16
  go_wp2_with (first
    | (go_at_call 51; refine hs.mono ?_; rintro e w' ⟨rfl, rfl⟩)
    | fail)
  go_ret2
  refine ⟨_, rfl, ?_, Nat.le_refl _, HG.out⟩
  rw [HB.out, HD.out, List.append_nil]
end
end Go.Proofs.Ytndmpdpmfieacaa
