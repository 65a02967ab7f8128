/-
  What a new memory is: read out of a verified evaluator's state; condition: the number of clients.
-/
import Derived.Test.YtlkanknmjkeagaaEvU
import Derived.Test.YtlkanknmjkeagaaBase
import Derived.Test.YtlkanknmjkeagaaMm
namespace Go.Proofs.Ytlkanknmjkeagaa
open Go Go.RowKit
set_option linter.all false
set_option maxRecDepth 1000000
open Go.Ev (St Res Tr R Gh)
/-- Cell k of object b is there. -/
noncomputable def lv (s : St) (b k : Nat) : Bool := (s.obj b).live && Nat.ble (k + 1) (s.obj b).len
noncomputable def cel (s : St) (b k : Nat) : Value := Tr.get undef (s.obj b).cells k
noncomputable def cIs (s : St) (b k : Nat) (v : Value) : Bool := lv s b k && Ev.veq (cel s b k) v
noncomputable def chkMem (k : Nat) : Res → Bool
  | .val (.tuple ⟨[.pointer (some a), .int .i64 z]⟩) s =>
    match cel s a.block (a.off + 1) with
    | .pointer (some e) =>
      match cel s e.block (e.off + 2) with
      | .slice (some q) n c =>
        decide (z = 0) && (Nat.beq n k && (Nat.beq c k && (lv s a.block (a.off + 1) && (lv s e.block (e.off + 2) && (cIs s a.block (a.off + 3) (.int .i64 (k : Int)) && (cIs s a.block (a.off + 4) (.int .i64 (-1)) &&
          (cIs s e.block e.off (.int .i64 0) && ((List.range k).all (fun j => cIs s q.block (q.off + j * 2) (.int .i64 (-1))) && (!Nat.beq a.block e.block && (!Nat.beq a.block q.block && (!Nat.beq e.block q.block && (Nat.ble 1 k && !(s.obj q.block).opn))))))))))))
      | _ => false
    | _ => false
  | _ => false
section
variable [Ev.Tok] {B : Nat → Prop} {γ : Gh} {s : St} {w : World}
theorem lv_spec {b k : Nat} (h : lv s b k = true) : (s.obj b).live = true ∧ k < (s.obj b).len := by
  unfold lv at h
  rw [Bool.and_eq_true] at h
  exact ⟨h.1, Nat.le_of_ble_eq_true h.2⟩
theorem lv_cell (hR : R B γ s w) {b k : Nat} (h : lv s b k = true) : w.cell? ⟨γ.blk b, γ.off b + k, none⟩ = some (Ev.ren γ (cel s b k)) := hR.cell (lv_spec h).1 (lv_spec h).2
theorem lv_frozen (hR : R B γ s w) {b k : Nat} (h : lv s b k = true) : w.frozen? ⟨γ.blk b, γ.off b + k, none⟩ = false := hR.frozen (lv_spec h).1 (lv_spec h).2
theorem cIs_cell (hR : R B γ s w) {b k : Nat} {v : Value} (h : cIs s b k v = true) : w.cell? ⟨γ.blk b, γ.off b + k, none⟩ = some (Ev.ren γ v) ∧ w.frozen? ⟨γ.blk b, γ.off b + k, none⟩ = false := by
  unfold cIs at h
  rw [Bool.and_eq_true] at h
  rw [lv_cell hR h.1, Ev.veq_spec _ _ h.2]
  exact ⟨rfl, lv_frozen hR h.1⟩
end
def NewMem (W : World) (k : Nat) (e : Ending) (w : World) : Prop := ∃ M oM E oE R oR, e = .returned (.tuple #[.pointer (some ⟨M, oM, none⟩), .int .i64 0]) ∧ Mm M oM E oE R oR k (-1) 0 (fun _ => -1) w ∧ (W.heap.size ≤ M ∧ W.heap.size ≤ E ∧ W.heap.size ≤ R) ∧ Below W.heap.size W w
theorem calls_mem [Ev.Tok] [Ev.Sym] {P : Program} {orc : Ev.Orc} (hs : Ev.SymOk P) (ho : Ev.OrcOk P orc) (hm : P.follows .mixedOrders = true) {n g k : Nat} {args : List Value} (ha : ∀ v ∈ args, Ev.Wf 0 v) (h : chkMem k (Ev.runF P orc n (.fn g args Ev.st0)) = true) (w : World) :
    Calls P g (args.map (Ev.ren Ev.γ0)).toArray w (NewMem w k) := by
  rw [Ev.runF_eq] at h
  unfold chkMem at h
  split at h
  case h_2 => cases h
  rename_i a z s hres
  split at h
  case h_2 => cases h
  rename_i e he
  split at h
  case h_2 => cases h
  rename_i q n' c hq
  simp only [Bool.and_eq_true, decide_eq_true_eq, Bool.not_eq_true', List.all_eq_true, List.mem_range] at h
  obtain ⟨rfl, hn, hc, h1, h2, h3, h4, h5, h6, h7, h8, h9, hk, ho'⟩ := h
  have hn := Nat.eq_of_beq_eq_true hn
  have hc := Nat.eq_of_beq_eq_true hc
  have hk := Nat.le_of_ble_eq_true hk
  subst hn
  have := (Ev.sound hs ho hm n).1.2 g args Ev.st0 _ s hres (fun k => k < w.heap.size) Ev.γ0 w (Ev.R.zero _ w) ha
  refine this.mono ?_
  rintro r w' ⟨γ, rfl, _, hR, _, hb, _⟩
  have la := (lv_spec h1).1
  have le := (lv_spec h2).1
  have lq : (s.obj q.block).live = true := by
    have := h6 0 hk
    unfold cIs at this
    rw [Bool.and_eq_true] at this
    exact (lv_spec this.1).1
  have hx := hR.cl _ lq ho'
  have d1 : γ.blk a.block ≠ γ.blk e.block := fun x => by have := hR.inj _ _ la le x; rw [this] at h7; simp at h7
  have d2 : γ.blk a.block ≠ γ.blk q.block := fun x => by have := hR.inj _ _ la lq x; rw [this] at h8; simp at h8
  have d3 : γ.blk e.block ≠ γ.blk q.block := fun x => by have := hR.inj _ _ le lq x; rw [this] at h9; simp at h9
  have c1 := lv_cell hR h1
  rw [he] at c1
  have c2 := lv_cell hR h2
  rw [hq] at c2
  have c3 := cIs_cell hR h3
  have c4 := cIs_cell hR h4
  have c5 := cIs_cell hR h5
  refine ⟨γ.blk a.block, γ.off a.block + a.off, γ.blk e.block, γ.off e.block + e.off, γ.blk q.block, γ.off q.block + q.off, rfl, ⟨⟨c5.1, c5.2, by rw [Nat.add_assoc]; subst hc; rw [c2]; simp [Ev.ren, Gh.at, hx], fun j hj => ?_, fun j hj => ?_, d3⟩, by rw [Nat.add_assoc]; exact c1, by rw [Nat.add_assoc]; exact c3.1, by rw [Nat.add_assoc]; exact c4.1, by rw [Nat.add_assoc]; exact c4.2, d1, d2⟩,
    ⟨Nat.le_of_not_lt (hR.low _ la), Nat.le_of_not_lt (hR.low _ le), Nat.le_of_not_lt (hR.low _ lq)⟩, hb.below⟩
  · rw [Nat.add_assoc]; exact (cIs_cell hR (h6 j hj)).1
  · rw [Nat.add_assoc]; exact (cIs_cell hR (h6 j hj)).2
def nm (n : Int) : Value := .int .i64 n
/-- The configuration that the statements take, with k clients. -/
def cfg (k : Int) : Value := .agg ⟨[nm 40, nm 24, nm 8, nm 4, nm 2, nm k, nm 8, nm 1]⟩
def MkP (k : Nat) : Prop := letI : Ev.Tok := ⟨fun _ => 0, fun _ => ByteArray.empty⟩; chkMem k (@Ev.runF Ev.noSym Try.prog Ev.noOrc 400000 (.fn 15 [cfg k] Ev.st0)) = true
theorem new_of {k : Nat} (h : MkP k) (w : World) : Calls Try.prog 15 #[cfg k] w (NewMem w k) := by
  letI : Ev.Tok := ⟨fun _ => 0, fun _ => ByteArray.empty⟩
  letI : Ev.Sym := Ev.noSym
  exact @calls_mem _ Ev.noSym Try.prog Ev.noOrc (Ev.noSym_ok _) Ev.noOrc_ok mixed 400000 15 k [cfg k] (by simp [cfg, nm, Ev.Wf, Ev.WfL]) h w
/-- A call that hands back a value that hangs on no memory. -/
noncomputable def isVal (u : Value) : Res → Bool
  | .val v _ => Ev.veq v u
  | _ => false
def CfP : Prop := letI : Ev.Tok := ⟨fun _ => 0, fun _ => ByteArray.empty⟩; isVal (cfg 1) (@Ev.runF Ev.noSym Try.prog Ev.noOrc 4000 (.fn 14 [.agg ⟨[nm 0, nm 0, nm 0, nm 0, nm 0, nm 0, nm 0, nm 0]⟩] Ev.st0)) = true
theorem cf_p : CfP := by unfold CfP; kernel_rfl
theorem calls_val [Ev.Tok] [Ev.Sym] {P : Program} {orc : Ev.Orc} (hs : Ev.SymOk P) (ho : Ev.OrcOk P orc) (hm : P.follows .mixedOrders = true) {n g : Nat} {u : Value} {args : List Value} (hu : ∀ γ, Ev.ren γ u = u) (ha : ∀ v ∈ args, Ev.Wf 0 v) (h : isVal u (Ev.runF P orc n (.fn g args Ev.st0)) = true) (w : World) :
    Calls P g (args.map (Ev.ren Ev.γ0)).toArray w fun e w' => e = .returned u ∧ Below w.heap.size w w' := by
  rw [Ev.runF_eq] at h
  unfold isVal at h
  split at h
  case h_2 => cases h
  rename_i v s hres
  have hv := Ev.veq_spec _ _ h
  subst hv
  have := (Ev.sound hs ho hm n).1.2 g args Ev.st0 _ s hres (fun k => k < w.heap.size) Ev.γ0 w (Ev.R.zero _ w) ha
  refine this.mono ?_
  rintro r w' ⟨γ, rfl, _, hR, _, hb, _⟩
  exact ⟨by rw [hu γ], hb.below⟩
def zcfg : Value := .agg ⟨[nm 0, nm 0, nm 0, nm 0, nm 0, nm 0, nm 0, nm 0]⟩
theorem config_any (w : World) : Calls Try.prog 14 #[zcfg] w fun e w' => e = .returned (cfg 1) ∧ Below w.heap.size w w' := by
  letI : Ev.Tok := ⟨fun _ => 0, fun _ => ByteArray.empty⟩
  letI : Ev.Sym := Ev.noSym
  exact @calls_val _ Ev.noSym Try.prog Ev.noOrc (Ev.noSym_ok _) Ev.noOrc_ok mixed 4000 14 (cfg 1) [zcfg] (fun γ => rfl) (by simp [zcfg, nm, Ev.Wf, Ev.WfL]) cf_p w
theorem memRuns_ev : Ev.isTrue (letI : Ev.Tok := ⟨fun _ => 0, fun _ => ByteArray.empty⟩; @Ev.runF Ev.noSym Try.prog Ev.noOrc 400000 (.fn 17 [] Ev.st0)) = true := by kernel_rfl
theorem memRuns_any (w : World) : Calls Try.prog 17 #[] w fun e w' => e = .returned (.bool true) ∧ Below w.heap.size w w' := by
  letI : Ev.Tok := ⟨fun _ => 0, fun _ => ByteArray.empty⟩
  letI : Ev.Sym := Ev.noSym
  exact @Ev.calls_true_args _ Ev.noSym Try.prog _ (Ev.noSym_ok _) Ev.noOrc_ok mixed 400000 17 [] (by simp) (Ev.fast memRuns_ev) w
end Go.Proofs.Ytlkanknmjkeagaa
