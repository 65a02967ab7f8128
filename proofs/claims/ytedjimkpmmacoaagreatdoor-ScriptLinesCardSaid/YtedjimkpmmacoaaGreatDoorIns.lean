/-
  What slices.Insert does with one more element ahead of the last ones, with room and without; conditions: the memory that it reads is as said.
-/
import Derived.Test.YtedjimkpmmacoaaGreatDoorEvT
import Derived.Test.YtedjimkpmmacoaaGreatDoorProg
import Derived.Test.YtedjimkpmmacoaaGreatDoorChecked
import Derived.WalkKit
import Derived.Deep.RegionLaw
import Derived.Lib.Walk
import Derived.Lib.SliceRun
import Derived.Lib.AppendZeros
import Derived.Lib.Overlaps
import Derived.Laws.Externs
import Derived.Laws.IdiomCopy
set_option linter.all false
set_option linter.unusedVariables false
set_option linter.unusedSimpArgs false
namespace Go.Proofs.YtedjimkpmmacoaaGreatDoor
open Go.RowKit Go.Lib
section
variable {P : Program} [Ev.Tok]
theorem wpList_copy_runI (w : World) {ops : Array Oper} {rest : List Oper} {o : Oper} {a : Act} {Q : Exit → Act → World → Prop} (hgd : o.guard = none) (d s : Operand) (t t' : TypeId)
    (ho : o.op = .call { callee := .builtin .copy, args := #[d, s], argTypes := #[t, t'] }) (v u : Value) (hd : a.eval d = v) (hs : a.eval s = u) {v' : Value} {w' : World}
    (hr : (Builtin.copy_ #[t, t'] o.type #[v, u]).run P w = .ok v' w') (h : wpList P ops Q rest (a.put o.dst v') w') : wpList P ops Q (o :: rest) a w := by
  refine wpList_plain hgd fun _ hK => ?_
  unfold Oper.wp execOp
  simp only [ho, resolve, invoke, builtin, Sem.run_bind, Sem.run_pure, Result.andThen_ok, List.map_toArray, List.map_cons, List.map_nil, hd, hs, hr]
  exact hK _ _ h
theorem step_copy_runI {ops : Array Oper} {o : Oper} {a : Act} {w : World} {K : Act → World → Prop} {Q : Exit → Act → World → Prop} {E : Prop}
    (hg : o.guard = none) (d x : Operand) (dT sT : TypeId) (hop : o.op = Op.call { callee := Callee.builtin Builtin.copy, args := #[d, x], argTypes := #[dT, sT] })
    (v u : Value) (hd : a.eval d = v) (hx : a.eval x = u) {v' : Value} {w' : World} (hr : (Builtin.copy_ #[dT, sT] o.type #[v, u]).run P w = .ok v' w') (hK : K (a.put o.dst v') w') :
    if Region.wanted o (yielded ops a.tmps) = true then Oper.wp P o a w K Q else E := by
  have hw : Region.wanted o (yielded ops a.tmps) = true := by simp [Region.wanted, hg]
  rw [if_pos hw]
  unfold Oper.wp
  simp [execOp, hop, resolve, invoke, builtin, hd, hx, hr, Result.andThen]
  exact hK
theorem step_append_runI {P : Program} {ops : Array Oper} {o : Oper} {a : Act} {w : World} {K : Act → World → Prop} {Q : Exit → Act → World → Prop} {E : Prop}
    (hg : o.guard = none) (d x : Operand) (dT sT : TypeId) (hop : o.op = Op.call { callee := Callee.builtin Builtin.append, args := #[d, x], argTypes := #[dT, sT] })
    (v u : Value) (hd : a.eval d = v) (hx : a.eval x = u) {v' : Value} {w' : World} (hr : (Builtin.append_ #[dT, sT] o.type #[v, u]).run P w = .ok v' w') (hK : K (a.put o.dst v') w') :
    if Region.wanted o (yielded ops a.tmps) = true then Oper.wp P o a w K Q else E := by
  have hw : Region.wanted o (yielded ops a.tmps) = true := by simp [Region.wanted, hg]
  rw [if_pos hw]
  unfold Oper.wp
  simp [execOp, hop, resolve, invoke, builtin, hd, hx, hr, Result.andThen]
  exact hK
theorem wpList_clear_runI {P : Program} (w : World) {ops : Array Oper} {rest : List Oper} {o : Oper} {a : Act} {Q : Exit → Act → World → Prop} (hgd : o.guard = none) (d : Operand) (t : TypeId)
    (ho : o.op = .call { callee := .builtin .clear, args := #[d], argTypes := #[t] }) (v : Value) (hd : a.eval d = v) {v' : Value} {w' : World}
    (hr : (Builtin.clear_ #[t] o.type #[v]).run P w = .ok v' w') (h : wpList P ops Q rest (a.put o.dst v') w') : wpList P ops Q (o :: rest) a w := by
  refine wpList_plain hgd fun _ hK => ?_
  unfold Oper.wp execOp
  simp only [ho, resolve, invoke, builtin, Sem.run_bind, Sem.run_pure, Result.andThen_ok, List.map_toArray, List.map_cons, List.map_nil, hd, hr]
  exact hK _ _ h
theorem isSome_setCells (b : Nat) (vs : List Value) (o : Nat) (w : World) (h : ∀ j, j < vs.length → (w.cell? ⟨b, o + j, none⟩).isSome = true) (k : Nat) (hk : (w.cell? ⟨b, k, none⟩).isSome = true) : ((w.setCells b o vs).cell? ⟨b, k, none⟩).isSome = true := by
  by_cases hin : o ≤ k ∧ k < o + vs.length
  · have := World.cell?_setCells_in b vs o w h (k - o) (by omega)
    rw [show o + (k - o) = k by omega] at this
    rw [this]; rfl
  · rw [World.cell?_setCells_out b vs o w ⟨b, k, none⟩ (fun _ _ => by show k < o ∨ o + vs.length ≤ k; omega)]
    exact hk
/-- append of zeros where there is no room: a new row. -/
theorem run_append_zeros_grow (w : World) (t tn ty e : TypeId) (z : Value) (sz by_ : Nat) (kn : IntKind) (ht : P.underlying t = some (.slice e)) (htn : P.underlying tn = some (.int kn)) (hsz : Ev.tsz P e = some sz) (hz : Ev.tz P e = some z) (hby : Ev.tby P e = some by_)
    (base : Option Addr) (l c n : Nat) (old : Array Value) (hn : 0 < n) (hs0 : 0 < sz) (hroom : c < l + n) (hneed : l + n ≤ 1099511627776) (hb : (2 * (l + n) + 1000) * by_ ≤ 281474976710656)
    (hold : (Builtin.firstCells sz l (.slice base l c)).run P w.drew = .ok old w.drew) (k : IntKind) :
    (Builtin.append_ #[t, tn] ty #[.slice base l c, .int k n]).run P w = .ok (.slice (some ⟨w.heap.size, 0, none⟩) (l + n) (grownCap w (l + n) c e)) (w.drew.alloc (.cells (old ++ Builtin.zeroCells z.cells n ++ Builtin.zeroCells z.cells (grownCap w (l + n) c e - (l + n))) e)) := by
  obtain ⟨i, hi, hib⟩ := Ev.run_tby hby
  have hw : IntKind.i64.wrap (n : Int) = n := by rw [IntKind.wrap_i64]; omega
  have hnr : ¬ (l + n ≤ c) := by omega
  have h63' : ¬ (9223372036854775807 < ((l : Int) + (n : Int))) := by omega
  have h1 := nextslicecap_le hroom
  have h2 : Builtin.nextslicecap (l + n) c * by_ ≤ (2 * (l + n)) * by_ := Nat.mul_le_mul_right _ h1
  have h3 : (2 * (l + n)) * by_ ≤ (2 * (l + n) + 1000) * by_ := Nat.mul_le_mul_right _ (by omega)
  have h48' : ¬ (281474976710656 < Builtin.nextslicecap (l + n) c * i.bytes) := by rw [hib]; omega
  have h4 : n * by_ ≤ (2 * (l + n)) * by_ := Nat.mul_le_mul_right _ (by omega)
  have h48i : ¬ (281474976710656 < (n : Int) * (i.bytes : Int)) := by
    rw [hib, ← Int.natCast_mul]; omega
  have hneg : ¬ ((n : Int) < 0) := by omega
  have hns : ¬ (n * sz = 0) := Nat.mul_ne_zero (by omega) (by omega)
  have hn0 : n ≠ 0 := by omega
  have hs00 : sz ≠ 0 := by omega
  have hsz' := fun w => Ev.run_tsz (P := P) (w := w) hsz
  have hz' := fun w => Ev.run_tz (P := P) (w := w) hz
  unfold Builtin.append_
  simp [run_underlying ht, run_underlying htn, hsz', run_typeInfo w hi, run_typeInfo w.drew hi, asInt, asIntOf, hw, hnr, hneg, hns, hn0, hs00, h63', h48', h48i, Question.forced, hold, hz', newRow, grownCap]
end
set_option maxHeartbeats 4000000 in
set_option maxRecDepth 100000 in
/-- With room: in place. -/
theorem ins_shift_byte (b off n c i vb voff vc : Nat) (cs vs : List Value) (w : World) (hi : i < n) (hroom : n + 1 ≤ c) (hc63 : n + 1 ≤ 1099511627) (hvb : vb ≠ b)
    (hcl : cs.length = n) (hvl : vs.length = 1)
    (hcs : ∀ j v, cs[j]? = some v → w.cell? ⟨b, off + j, none⟩ = some v) (hsp : ∀ j, j < n + 1 → (w.cell? ⟨b, off + j, none⟩).isSome = true) (hfz : ∀ j, j < n + 1 → w.frozen? ⟨b, off + j, none⟩ = false)
    (hvs : ∀ j v, vs[j]? = some v → w.cell? ⟨vb, voff + j, none⟩ = some v) (h1c : ∀ v ∈ cs, v.oneCell' = true) (h1v : ∀ v ∈ vs, v.oneCell' = true)
    (tA tB : TypeId) (kA kB : Nat) (hsa : w.shape? vb = some (tA, kA)) (hsb : w.shape? b = some (tB, kB)) (hkB : kB ≠ 0) (hfa : w.frozen? ⟨vb, voff, none⟩ = false) (hfe : w.frozen? ⟨vb, kA, none⟩ = false) :
    Calls Tryz.prog 287 #[.slice (some ⟨b, off, none⟩) n c, .int .i64 i, .slice (some ⟨vb, voff, none⟩) 1 vc] w fun e w' =>
      e = .returned (.slice (some ⟨b, off, none⟩) (n + 1) c) ∧ w' = (w.drew.setCells b (off + (i + 1)) (cs.drop i)).setCells b (off + i) vs := by
  letI : Ev.Tok := ⟨fun _ => 0, fun _ => ByteArray.empty⟩
  have hz2 : ¬ ((i : Int) = (n : Int)) := by omega
  have hov : ∀ lb cb, (callFunc 314 #[.slice (some ⟨vb, voff, none⟩) 1 vc, .slice (some ⟨b, off + (i + 1), none⟩) lb cb]).run Tryz.prog w = .ok (.value (.bool false)) w := fun lb cb => by
    rw [run_callFunc_extern Tryz.func314 (by kernel_rfl) (by kernel_rfl) (by kernel_rfl) (e := Extern.SlicesOverlaps.overlaps #[28, 28] #[4]) (by kernel_rfl),
      Lib.run_overlaps_apart w 28 4 5 Tryz.underlying28 1 (fun w => Ev.run_tsz (by kernel_rfl)) ⟨vb, voff, none⟩ ⟨b, off + (i + 1), none⟩ 1 vc lb cb hvb tA tB kA kB hsa hsb hkB hfa hfe]
    rfl
  have hdl : (cs.drop i).length = n - i := by rw [List.length_drop, hcl]
  have hw1 : IntKind.i64.wrap ((i : Int) + 1) = (i : Int) + 1 := by rw [IntKind.wrap_i64]; omega
  have hb1 : (0 : Int) ≤ (i : Int) + 1 := by omega
  have hin : i ≤ n := by omega
  have htn : ((i : Int) + 1).toNat = i + 1 := by omega
  have hb2 : ¬ (c = i + 1) := by omega
  have hb3 : (i : Int) ≤ (n : Int) + 1 := by omega
  have hb4 : ¬ (c = i) := by omega
  have hsz : (Tryz.prog.info? 5).map (·.size) = some 1 := by kernel_rfl
  have hcp1 : ∀ ty dc sc, (Builtin.copy_ #[28, 28] ty #[.slice (some ⟨b, off + (i + 1), none⟩) (n - i) dc, .slice (some ⟨b, off + i, none⟩) (n + 1 - i) sc]).run Tryz.prog w.drew = .ok (goInt (cs.drop i).length) (w.drew.setCells b (off + (i + 1)) (cs.drop i)) := fun ty dc sc =>
    run_copy_cells w.drew _ _ ty 5 b (off + (i + 1)) (n - i) dc ⟨b, off + i, none⟩ (n + 1 - i) sc (cs.drop i) Tryz.underlying28 hsz (by rw [hdl]; simp only [Nat.min_def]; split <;> omega)
      (fun j v hj => by rw [Addr.add_lit, Nat.add_assoc]; exact hcs (i + j) v (by rwa [List.getElem?_drop] at hj))
      (fun j hj => by rw [Nat.add_assoc]; exact hsp _ (by omega)) (fun j hj => by rw [Nat.add_assoc]; exact hfz _ (by omega)) (fun v hv => h1c v (List.mem_of_mem_drop hv))
  obtain ⟨W1, hW1⟩ : ∃ W1, W1 = w.drew.setCells b (off + (i + 1)) (cs.drop i) := ⟨_, rfl⟩
  have hsp1 : ∀ k, k < n + 1 → (W1.cell? ⟨b, off + k, none⟩).isSome = true := fun k hk => by
    rw [hW1]
    exact isSome_setCells b _ _ _ (fun j hj => by rw [Nat.add_assoc]; exact hsp _ (by omega)) _ (hsp k hk)
  have hcp2 : ∀ (W : World), (∀ x, W.cell? x = W1.cell? x) → (∀ x, W.frozen? x = W1.frozen? x) → ∀ ty dc, (Builtin.copy_ #[28, 28] ty #[.slice (some ⟨b, off + i, none⟩) (n + 1 - i) dc, .slice (some ⟨vb, voff, none⟩) 1 vc]).run Tryz.prog W = .ok (goInt vs.length) (W.setCells b (off + i) vs) := fun W hWc hWf ty dc =>
    run_copy_cells W _ _ ty 5 b (off + i) (n + 1 - i) dc ⟨vb, voff, none⟩ 1 vc vs Tryz.underlying28 hsz (by rw [hvl]; simp only [Nat.min_def]; split <;> omega)
      (fun j v hj => by
        rw [Addr.add_lit, hWc, hW1, World.cell?_setCells_out b _ _ _ _ (fun h _ => absurd h hvb)]
        exact hvs j v hj)
      (fun j hj => by rw [hWc, Nat.add_assoc]; exact hsp1 _ (by omega)) (fun j hj => by rw [hWf, hW1, World.frozen?_setCells, Nat.add_assoc]; exact hfz _ (by omega)) h1v
  rw [← hW1] at hcp1
  go_enter Tryz.func287, Tryz.ntmps287
  go_wp2_with (simp only [hov])
  go_region_law (refine step_copy_runI rfl _ _ 28 28 rfl _ _ (by simp [Act.eval, Act.put]) (by simp [Act.eval, Act.put]) (hcp1 _ _ _) ?_)
  go_wp2_with (at_builtin; refine wpList_copy_runI _ rfl _ _ 28 28 rfl _ _ rfl rfl (hcp2 _ (fun _ => rfl) (fun _ => rfl) _ _) ?_)
  go_ret
  first | exact ⟨rfl, rfl⟩ | exact ⟨rfl, by rw [hW1]⟩
set_option maxHeartbeats 4000000 in
set_option maxRecDepth 100000 in
/-- Without room: a new row. -/
theorem ins_grow_byte (b off n i vb voff vc : Nat) (cs vs : List Value) (w : World) (hi : i < n) (hbig : n + 1 ≤ 1099511627) (hvb : vb < w.heap.size) (hbl : b < w.heap.size)
    (hcl : cs.length = n) (hvl : vs.length = 1)
    (hcs : ∀ j v, cs[j]? = some v → w.cell? ⟨b, off + j, none⟩ = some v)
    (hvs : ∀ j v, vs[j]? = some v → w.cell? ⟨vb, voff + j, none⟩ = some v) (h1c : ∀ v ∈ cs, v.oneCell' = true) (h1v : ∀ v ∈ vs, v.oneCell' = true) :
    Calls Tryz.prog 287 #[.slice (some ⟨b, off, none⟩) n n, .int .i64 i, .slice (some ⟨vb, voff, none⟩) 1 vc] w fun e w' =>
      e = .returned (.slice (some ⟨w.heap.size, 0, none⟩) (n + 1) (grownCap w (n + 1) n 5)) ∧
      w' = ((w.drew.alloc (.cells ((cs.take i).toArray ++ Builtin.zeroCells (Value.int .u8 0).cells (n + 1 - i) ++ Builtin.zeroCells (Value.int .u8 0).cells (grownCap w (n + 1) n 5 - (n + 1))) 5)).setCells w.heap.size i vs).drew.setCells w.heap.size (i + 1) (cs.drop i) := by
  letI : Ev.Tok := ⟨fun _ => 0, fun _ => ByteArray.empty⟩
  have hz2 : ¬ ((i : Int) = (n : Int)) := by omega
  have hcap : n + 1 ≤ grownCap w (n + 1) n 5 := by simp [grownCap, Question.cut]
  have hsz : (Tryz.prog.info? 5).map (·.size) = some 1 := by kernel_rfl
  have hdl : (cs.drop i).length = n - i := by rw [List.length_drop, hcl]
  have hold : (Builtin.firstCells 1 i (.slice (some ⟨b, off, none⟩) i n)).run Tryz.prog w.drew = .ok (cs.take i).toArray w.drew := by
    simp only [Builtin.firstCells, Nat.mul_one]
    have h := run_loadCells_list (P := Tryz.prog) w.drew ⟨b, off, none⟩ (cs.take i) (fun j v hj => by
      rw [Addr.add_lit]
      rw [List.getElem?_take] at hj
      split at hj
      · exact hcs j v hj
      · cases hj)
    rwa [List.length_take, hcl, Nat.min_eq_left (by omega)] at h
  have hrun0 : ∀ ty, _ := fun ty => run_append_zeros_grow (P := Tryz.prog) w 28 3 ty 5 (.int .u8 0) 1 1 .i64 Tryz.underlying28 Tryz.underlying3 (by kernel_rfl) (by kernel_rfl) (by kernel_rfl) (some ⟨b, off, none⟩) i n (n + 1 - i) _ (by omega) (by omega) (by omega) (by omega) (by omega) hold .i64
  have hin : i + (n + 1 - i) = n + 1 := by omega
  have hci : ((n + 1 - i : Nat) : Int) = (n : Int) + 1 - (i : Int) := by omega
  rw [hin, hci] at hrun0
  obtain ⟨cap, hcapE⟩ : ∃ cap, cap = grownCap w (n + 1) n 5 := ⟨_, rfl⟩
  rw [← hcapE] at hrun0 hcap ⊢
  obtain ⟨row, hrow⟩ : ∃ row : Array Value, row = (cs.take i).toArray ++ Builtin.zeroCells (Value.int .u8 0).cells (n + 1 - i) ++ Builtin.zeroCells (Value.int .u8 0).cells (cap - (n + 1)) := ⟨_, rfl⟩
  rw [← hrow] at hrun0 ⊢
  have hrs : row.size = cap := by
    rw [hrow]; simp [Ev.zeroCells_size, Value.cells, hcl]; omega
  have hcellH : ∀ k, k < cap → ((w.drew.alloc (.cells row 5)).cell? ⟨w.heap.size, k, none⟩).isSome = true := fun k hk => by
    have : (w.drew.alloc (.cells row 5)).heap[w.heap.size]? = some (.cells row 5 (0, 0)) := by
      show (w.heap.push _)[w.heap.size]? = _
      simp
    unfold World.cell?
    simp only
    rw [this]
    simp [hrs, hk]
  have hfzH : ∀ k, (w.drew.alloc (.cells row 5)).frozen? ⟨w.heap.size, k, none⟩ = false := fun k => by
    have : (w.drew.alloc (.cells row 5)).heap[w.heap.size]? = some (.cells row 5 (0, 0)) := by
      show (w.heap.push _)[w.heap.size]? = _
      simp
    unfold World.frozen?
    simp only
    rw [this]
    simp
  have hcellO : ∀ (b' o : Nat), b' < w.heap.size → (w.drew.alloc (.cells row 5)).cell? ⟨b', o, none⟩ = w.cell? ⟨b', o, none⟩ := fun b' o hb' => by
    have : (w.drew.alloc (.cells row 5)).heap[b']? = w.heap[b']? := by
      show (w.heap.push _)[b']? = _
      rw [Array.getElem?_push, if_neg (by omega)]
    unfold World.cell?
    simp only
    rw [this]
  obtain ⟨W1, hW1⟩ : ∃ W1, W1 = w.drew.alloc (.cells row 5) := ⟨_, rfl⟩
  rw [← hW1] at hrun0 hcellH hfzH hcellO ⊢
  have hb2 : ¬ (cap = i) := by omega
  have hb3 : ¬ (cap = i + 1) := by omega
  have hb5 : ¬ (n = i) := by omega
  have hw1 : IntKind.i64.wrap ((i : Int) + 1) = (i : Int) + 1 := by rw [IntKind.wrap_i64]; omega
  have hb1 : (0 : Int) ≤ (i : Int) + 1 := by omega
  have hle : i ≤ n := by omega
  have htn : ((i : Int) + 1).toNat = i + 1 := by omega
  have hb6 : (i : Int) ≤ (n : Int) + 1 := by omega
  have hcp1 : ∀ ty dc, (Builtin.copy_ #[28, 28] ty #[.slice (some ⟨w.heap.size, i, none⟩) (n + 1 - i) dc, .slice (some ⟨vb, voff, none⟩) 1 vc]).run Tryz.prog W1 = .ok (goInt vs.length) (W1.setCells w.heap.size i vs) := fun ty dc =>
    run_copy_cells W1 _ _ ty 5 w.heap.size i (n + 1 - i) dc ⟨vb, voff, none⟩ 1 vc vs Tryz.underlying28 hsz (by rw [hvl]; simp only [Nat.min_def]; split <;> omega)
      (fun j v hj => by rw [Addr.add_lit, hcellO _ _ hvb]; exact hvs j v hj)
      (fun j hj => hcellH _ (by omega)) (fun j hj => hfzH _) h1v
  obtain ⟨W2, hW2⟩ : ∃ W2, W2 = W1.setCells w.heap.size i vs := ⟨_, rfl⟩
  rw [← hW2] at hcp1 ⊢
  have hcp2 : ∀ ty dc sc, (Builtin.copy_ #[28, 28] ty #[.slice (some ⟨w.heap.size, i + 1, none⟩) (n - i) dc, .slice (some ⟨b, off + i, none⟩) (n - i) sc]).run Tryz.prog W2.drew = .ok (goInt (cs.drop i).length) (W2.drew.setCells w.heap.size (i + 1) (cs.drop i)) := fun ty dc sc =>
    run_copy_cells W2.drew _ _ ty 5 w.heap.size (i + 1) (n - i) dc ⟨b, off + i, none⟩ (n - i) sc (cs.drop i) Tryz.underlying28 hsz (by rw [hdl]; simp only [Nat.min_def]; split <;> omega)
      (fun j v hj => by
        rw [Addr.add_lit, Nat.add_assoc]
        show W2.cell? _ = _
        rw [hW2, World.cell?_setCells_out _ _ _ _ _ (fun h _ => by simp only at h; omega), hcellO _ _ hbl]
        exact hcs (i + j) v (by rwa [List.getElem?_drop] at hj))
      (fun j hj => by
        show (W2.cell? _).isSome = true
        rw [hW2]
        exact isSome_setCells _ _ _ _ (fun k hk => hcellH _ (by omega)) _ (hcellH _ (by omega)))
      (fun j hj => by
        show W2.frozen? _ = false
        rw [hW2, World.frozen?_setCells]; exact hfzH _)
      (fun v hv => h1c v (List.mem_of_mem_drop hv))
  clear hold hcapE hrow hrs hcellH hfzH hcellO hW1 hW2
  go_enter Tryz.func287, Tryz.ntmps287
  go_wp2_with (at_builtin; refine Lib.wpList_append_run _ rfl _ _ _ _ rfl _ _ rfl rfl _ _ (hrun0 _) ?_)
  go_wp2_with (at_builtin; refine wpList_copy_runI _ rfl _ _ 28 28 rfl _ _ rfl rfl (hcp1 _ _) ?_)
  go_region_law (refine step_copy_runI rfl _ _ 28 28 rfl _ _ (by simp [Act.eval, Act.put]) (by simp [Act.eval, Act.put]) (hcp2 _ _ _) ?_)
  go_wp2
  go_ret
  exact ⟨rfl, rfl⟩
set_option maxHeartbeats 4000000 in
set_option maxRecDepth 100000 in
/-- slices.Delete of one element: in place. -/
theorem del_byte (b off n c i : Nat) (cs : List Value) (w : World) (hi : i < n) (hnc : n ≤ c) (h9 : n + 1 ≤ 1099511627)
    (hcl : cs.length = n)
    (hcs : ∀ j v, cs[j]? = some v → w.cell? ⟨b, off + j, none⟩ = some v) (hsp : ∀ j, j < n → (w.cell? ⟨b, off + j, none⟩).isSome = true) (hfz : ∀ j, j < n → w.frozen? ⟨b, off + j, none⟩ = false)
    (h1c : ∀ v ∈ cs, v.oneCell' = true) :
    Calls Tryz.prog 318 #[.slice (some ⟨b, off, none⟩) n c, .int .i64 i, .int .i64 ((i : Int) + 1)] w fun e w' =>
      e = .returned (.slice (some ⟨b, off, none⟩) (n - 1) c) ∧ w' = (w.drew.setCells b (off + i) (cs.drop (i + 1))).setCells b (off + (n - 1)) [.int .u8 0] := by
  letI : Ev.Tok := ⟨fun _ => 0, fun _ => ByteArray.empty⟩
  have hb0 : ¬ ((i : Int) = (i : Int) + 1) := by omega
  have hw1 : IntKind.i64.wrap ((i : Int) + 1) = (i : Int) + 1 := by rw [IntKind.wrap_i64]; omega
  have hb1 : (0 : Int) ≤ (i : Int) + 1 := by omega
  have hb2 : (i : Int) + 1 ≤ (n : Int) := by omega
  have hb3 : (i : Int) ≤ (c : Int) := by omega
  have hb4 : (n : Int) ≤ (c : Int) := by omega
  have htn : ((i : Int) + 1).toNat = i + 1 := by omega
  have hn1 : i + (n - (i + 1)) = n - 1 := by omega
  have hdl : (cs.drop (i + 1)).length = n - (i + 1) := by rw [List.length_drop, hcl]
  have hb5 : ¬ (c = n - 1) := by omega
  have hb7 : (i : Int) ≤ (i : Int) + 1 := by omega
  have hst := run_storeCells_cells (P := Tryz.prog) b (off + i) (cs.drop (i + 1)) 0 w.drew (fun j hj => by rw [Nat.add_zero, Nat.add_assoc]; exact hsp _ (by omega)) (fun j hj => by rw [Nat.add_zero, Nat.add_assoc]; exact hfz _ (by omega)) (fun v hv => h1c v (List.mem_of_mem_drop hv))
  rw [Nat.add_zero] at hst
  have hap : ∀ (ty : TypeId) (u : Value), (∃ a cc, u = .slice (some a) (n - (i + 1)) cc ∧ ∀ j v, (cs.drop (i + 1))[j]? = some v → w.cell? (a.add j) = some v) →
      (Builtin.append_ #[28, 28] ty #[.slice (some ⟨b, off, none⟩) i c, u]).run Tryz.prog w.drew = .ok (.slice (some ⟨b, off, none⟩) (n - 1) c) (w.drew.setCells b (off + i) (cs.drop (i + 1))) := by
    rintro ty u ⟨a, cc, rfl, ha⟩
    have hl := run_loadCells_list (P := Tryz.prog) w.drew a (cs.drop (i + 1)) ha
    rw [hdl] at hl
    have := Ev.run_append_room (P := Tryz.prog) (ty := ty) (argTypes := #[28, 28]) (sT := 28) (xT := 28) (a := ⟨b, off, none⟩) (l := i) (c := c) (n := n - (i + 1)) (sz := 1) (y := .slice (some a) (n - (i + 1)) cc) (new := (cs.drop (i + 1)).toArray) (w := w.drew) rfl rfl Tryz.underlying28 (fun k => by simp) Tryz.underlying28 (by kernel_rfl) rfl (by simpa [Builtin.firstCells] using hl) (by omega)
      (by rw [Nat.mul_one, Addr.add_lit]; exact hst)
    rw [hn1] at this
    exact this
  obtain ⟨W1, hW1⟩ : ∃ W1, W1 = w.drew.setCells b (off + i) (cs.drop (i + 1)) := ⟨_, rfl⟩
  have hclr : ∀ ty cc, (Builtin.clear_ #[28] ty #[.slice (some ⟨b, off + (n - 1), none⟩) (n - (n - 1)) cc]).run Tryz.prog W1 = .ok (.tuple #[]) (W1.setCells b (off + (n - 1)) [.int .u8 0]) := by
    intro ty cc
    have hs2 := run_storeCells_cells (P := Tryz.prog) b (off + (n - 1)) [.int .u8 0] 0 W1
      (fun j hj => by
        have : j = 0 := by simpa using hj
        subst this
        simp only [Nat.add_zero]
        rw [hW1]
        exact isSome_setCells b _ _ _ (fun j hj => by rw [Nat.add_assoc]; exact hsp _ (by omega)) _ (hsp _ (by omega)))
      (fun j hj => by
        have : j = 0 := by simpa using hj
        subst this
        simp only [Nat.add_zero]
        rw [hW1, World.frozen?_setCells]; exact hfz _ (by omega)) (by simp [Value.oneCell'])
    simp only [Nat.add_zero] at hs2
    have hz : (zeroValue 5).run Tryz.prog W1 = .ok (.int .u8 0) W1 := Ev.run_tz (by kernel_rfl)
    have h1 : n - (n - 1) = 1 := by omega
    rw [h1]
    have hzc : (Builtin.zeroCells (Value.int .u8 0).cells 1).toList = [.int .u8 0] := by kernel_rfl
    unfold Builtin.clear_
    simp [run_underlying Tryz.underlying28, hz, hzc, hs2]
  have hs3 : ∀ j v, (cs.drop (i + 1))[j]? = some v → w.cell? ((⟨b, off + (i + 1), none⟩ : Addr).add j) = some v := fun j v hj => by
    rw [Addr.add_lit, Nat.add_assoc]; exact hcs _ v (by rwa [List.getElem?_drop] at hj)
  rw [← hW1] at hap ⊢
  by_cases hci : c = i + 1
  · have hap1 : ∀ ty, (Builtin.append_ #[28, 28] ty #[.slice (some ⟨b, off, none⟩) i c, .slice (some ⟨b, off, none⟩) (n - (i + 1)) (c - (i + 1))]).run Tryz.prog w.drew = .ok (.slice (some ⟨b, off, none⟩) (n - 1) c) W1 :=
      fun ty => hap ty _ ⟨_, _, rfl, fun j v hj => by
        have : cs.drop (i + 1) = [] := List.drop_eq_nil_of_le (by omega)
        rw [this] at hj; simp at hj⟩
    subst hci
    obtain rfl : n = i + 1 := by omega
    have hclr1 : ∀ ty cc, (Builtin.clear_ #[28] ty #[.slice (some ⟨b, off + i, none⟩) 1 cc]).run Tryz.prog W1 = .ok (.tuple #[]) (W1.setCells b (off + i) [.int .u8 0]) := fun ty cc => by
      have := hclr ty cc
      rw [Nat.add_sub_cancel, show i + 1 - i = 1 from by omega] at this
      exact this
    simp only [Nat.sub_self, Nat.add_sub_cancel] at hap1 ⊢
    clear hclr
    clear hap hst hcs hsp hfz hs3 hW1 hdl
    go_enter Tryz.func318, Tryz.ntmps318
    go_wp2
    go_region_law (refine step_append_runI rfl _ _ 28 28 rfl _ _ (by simp [Act.eval, Act.put]) (by simp [Act.eval, Act.put]) (hap1 _) ?_)
    go_wp2_with (at_builtin; refine wpList_clear_runI _ rfl _ 28 rfl _ rfl (hclr1 _ _) ?_)
    go_ret
    exact ⟨rfl, rfl⟩
  · have hap1 : ∀ ty, (Builtin.append_ #[28, 28] ty #[.slice (some ⟨b, off, none⟩) i c, .slice (some ⟨b, off + (i + 1), none⟩) (n - (i + 1)) (c - (i + 1))]).run Tryz.prog w.drew = .ok (.slice (some ⟨b, off, none⟩) (n - 1) c) W1 :=
      fun ty => hap ty _ ⟨_, _, rfl, hs3⟩
    clear hap hst hcs hsp hfz hs3 hW1 hdl
    go_enter Tryz.func318, Tryz.ntmps318
    go_wp2
    go_region_law (refine step_append_runI rfl _ _ 28 28 rfl _ _ (by simp [Act.eval, Act.put]) (by simp [Act.eval, Act.put]) (hap1 _) ?_)
    go_wp2_with (at_builtin; refine wpList_clear_runI _ rfl _ 28 rfl _ rfl (hclr _ _) ?_)
    go_ret
    exact ⟨rfl, rfl⟩
set_option maxHeartbeats 4000000 in
set_option maxRecDepth 100000 in
/-- With room: in place. -/
theorem ins_shift_int (b off n c i vb voff vc : Nat) (cs vs : List Value) (w : World) (hi : i < n) (hroom : n + 1 ≤ c) (hc63 : n + 1 ≤ 1099511627) (hvb : vb ≠ b)
    (hcl : cs.length = n) (hvl : vs.length = 1)
    (hcs : ∀ j v, cs[j]? = some v → w.cell? ⟨b, off + j, none⟩ = some v) (hsp : ∀ j, j < n + 1 → (w.cell? ⟨b, off + j, none⟩).isSome = true) (hfz : ∀ j, j < n + 1 → w.frozen? ⟨b, off + j, none⟩ = false)
    (hvs : ∀ j v, vs[j]? = some v → w.cell? ⟨vb, voff + j, none⟩ = some v) (h1c : ∀ v ∈ cs, v.oneCell' = true) (h1v : ∀ v ∈ vs, v.oneCell' = true)
    (tA tB : TypeId) (kA kB : Nat) (hsa : w.shape? vb = some (tA, kA)) (hsb : w.shape? b = some (tB, kB)) (hkB : kB ≠ 0) (hfa : w.frozen? ⟨vb, voff, none⟩ = false) (hfe : w.frozen? ⟨vb, kA, none⟩ = false) :
    Calls Tryz.prog 288 #[.slice (some ⟨b, off, none⟩) n c, .int .i64 i, .slice (some ⟨vb, voff, none⟩) 1 vc] w fun e w' =>
      e = .returned (.slice (some ⟨b, off, none⟩) (n + 1) c) ∧ w' = (w.drew.setCells b (off + (i + 1)) (cs.drop i)).setCells b (off + i) vs := by
  letI : Ev.Tok := ⟨fun _ => 0, fun _ => ByteArray.empty⟩
  have hz2 : ¬ ((i : Int) = (n : Int)) := by omega
  have hov : ∀ lb cb, (callFunc 316 #[.slice (some ⟨vb, voff, none⟩) 1 vc, .slice (some ⟨b, off + (i + 1), none⟩) lb cb]).run Tryz.prog w = .ok (.value (.bool false)) w := fun lb cb => by
    rw [run_callFunc_extern Tryz.func316 (by kernel_rfl) (by kernel_rfl) (by kernel_rfl) (e := Extern.SlicesOverlaps.overlaps #[47, 47] #[4]) (by kernel_rfl),
      Lib.run_overlaps_apart w 47 4 3 Tryz.underlying47 1 (fun w => Ev.run_tsz (by kernel_rfl)) ⟨vb, voff, none⟩ ⟨b, off + (i + 1), none⟩ 1 vc lb cb hvb tA tB kA kB hsa hsb hkB hfa hfe]
    rfl
  have hdl : (cs.drop i).length = n - i := by rw [List.length_drop, hcl]
  have hw1 : IntKind.i64.wrap ((i : Int) + 1) = (i : Int) + 1 := by rw [IntKind.wrap_i64]; omega
  have hb1 : (0 : Int) ≤ (i : Int) + 1 := by omega
  have hin : i ≤ n := by omega
  have htn : ((i : Int) + 1).toNat = i + 1 := by omega
  have hb2 : ¬ (c = i + 1) := by omega
  have hb3 : (i : Int) ≤ (n : Int) + 1 := by omega
  have hb4 : ¬ (c = i) := by omega
  have hsz : (Tryz.prog.info? 3).map (·.size) = some 1 := by kernel_rfl
  have hcp1 : ∀ ty dc sc, (Builtin.copy_ #[47, 47] ty #[.slice (some ⟨b, off + (i + 1), none⟩) (n - i) dc, .slice (some ⟨b, off + i, none⟩) (n + 1 - i) sc]).run Tryz.prog w.drew = .ok (goInt (cs.drop i).length) (w.drew.setCells b (off + (i + 1)) (cs.drop i)) := fun ty dc sc =>
    run_copy_cells w.drew _ _ ty 3 b (off + (i + 1)) (n - i) dc ⟨b, off + i, none⟩ (n + 1 - i) sc (cs.drop i) Tryz.underlying47 hsz (by rw [hdl]; simp only [Nat.min_def]; split <;> omega)
      (fun j v hj => by rw [Addr.add_lit, Nat.add_assoc]; exact hcs (i + j) v (by rwa [List.getElem?_drop] at hj))
      (fun j hj => by rw [Nat.add_assoc]; exact hsp _ (by omega)) (fun j hj => by rw [Nat.add_assoc]; exact hfz _ (by omega)) (fun v hv => h1c v (List.mem_of_mem_drop hv))
  obtain ⟨W1, hW1⟩ : ∃ W1, W1 = w.drew.setCells b (off + (i + 1)) (cs.drop i) := ⟨_, rfl⟩
  have hsp1 : ∀ k, k < n + 1 → (W1.cell? ⟨b, off + k, none⟩).isSome = true := fun k hk => by
    rw [hW1]
    exact isSome_setCells b _ _ _ (fun j hj => by rw [Nat.add_assoc]; exact hsp _ (by omega)) _ (hsp k hk)
  have hcp2 : ∀ (W : World), (∀ x, W.cell? x = W1.cell? x) → (∀ x, W.frozen? x = W1.frozen? x) → ∀ ty dc, (Builtin.copy_ #[47, 47] ty #[.slice (some ⟨b, off + i, none⟩) (n + 1 - i) dc, .slice (some ⟨vb, voff, none⟩) 1 vc]).run Tryz.prog W = .ok (goInt vs.length) (W.setCells b (off + i) vs) := fun W hWc hWf ty dc =>
    run_copy_cells W _ _ ty 3 b (off + i) (n + 1 - i) dc ⟨vb, voff, none⟩ 1 vc vs Tryz.underlying47 hsz (by rw [hvl]; simp only [Nat.min_def]; split <;> omega)
      (fun j v hj => by
        rw [Addr.add_lit, hWc, hW1, World.cell?_setCells_out b _ _ _ _ (fun h _ => absurd h hvb)]
        exact hvs j v hj)
      (fun j hj => by rw [hWc, Nat.add_assoc]; exact hsp1 _ (by omega)) (fun j hj => by rw [hWf, hW1, World.frozen?_setCells, Nat.add_assoc]; exact hfz _ (by omega)) h1v
  rw [← hW1] at hcp1
  go_enter Tryz.func288, Tryz.ntmps288
  go_wp2_with (simp only [hov])
  go_region_law (refine step_copy_runI rfl _ _ 47 47 rfl _ _ (by simp [Act.eval, Act.put]) (by simp [Act.eval, Act.put]) (hcp1 _ _ _) ?_)
  go_wp2_with (at_builtin; refine wpList_copy_runI _ rfl _ _ 47 47 rfl _ _ rfl rfl (hcp2 _ (fun _ => rfl) (fun _ => rfl) _ _) ?_)
  go_ret
  first | exact ⟨rfl, rfl⟩ | exact ⟨rfl, by rw [hW1]⟩
set_option maxHeartbeats 4000000 in
set_option maxRecDepth 100000 in
/-- Without room: a new row. -/
theorem ins_grow_int (b off n i vb voff vc : Nat) (cs vs : List Value) (w : World) (hi : i < n) (hbig : n + 1 ≤ 1099511627) (hvb : vb < w.heap.size) (hbl : b < w.heap.size)
    (hcl : cs.length = n) (hvl : vs.length = 1)
    (hcs : ∀ j v, cs[j]? = some v → w.cell? ⟨b, off + j, none⟩ = some v)
    (hvs : ∀ j v, vs[j]? = some v → w.cell? ⟨vb, voff + j, none⟩ = some v) (h1c : ∀ v ∈ cs, v.oneCell' = true) (h1v : ∀ v ∈ vs, v.oneCell' = true) :
    Calls Tryz.prog 288 #[.slice (some ⟨b, off, none⟩) n n, .int .i64 i, .slice (some ⟨vb, voff, none⟩) 1 vc] w fun e w' =>
      e = .returned (.slice (some ⟨w.heap.size, 0, none⟩) (n + 1) (grownCap w (n + 1) n 3)) ∧
      w' = ((w.drew.alloc (.cells ((cs.take i).toArray ++ Builtin.zeroCells (Value.int .i64 0).cells (n + 1 - i) ++ Builtin.zeroCells (Value.int .i64 0).cells (grownCap w (n + 1) n 3 - (n + 1))) 3)).setCells w.heap.size i vs).drew.setCells w.heap.size (i + 1) (cs.drop i) := by
  letI : Ev.Tok := ⟨fun _ => 0, fun _ => ByteArray.empty⟩
  have hz2 : ¬ ((i : Int) = (n : Int)) := by omega
  have hcap : n + 1 ≤ grownCap w (n + 1) n 3 := by simp [grownCap, Question.cut]
  have hsz : (Tryz.prog.info? 3).map (·.size) = some 1 := by kernel_rfl
  have hdl : (cs.drop i).length = n - i := by rw [List.length_drop, hcl]
  have hold : (Builtin.firstCells 1 i (.slice (some ⟨b, off, none⟩) i n)).run Tryz.prog w.drew = .ok (cs.take i).toArray w.drew := by
    simp only [Builtin.firstCells, Nat.mul_one]
    have h := run_loadCells_list (P := Tryz.prog) w.drew ⟨b, off, none⟩ (cs.take i) (fun j v hj => by
      rw [Addr.add_lit]
      rw [List.getElem?_take] at hj
      split at hj
      · exact hcs j v hj
      · cases hj)
    rwa [List.length_take, hcl, Nat.min_eq_left (by omega)] at h
  have hrun0 : ∀ ty, _ := fun ty => run_append_zeros_grow (P := Tryz.prog) w 47 3 ty 3 (.int .i64 0) 1 8 .i64 Tryz.underlying47 Tryz.underlying3 (by kernel_rfl) (by kernel_rfl) (by kernel_rfl) (some ⟨b, off, none⟩) i n (n + 1 - i) _ (by omega) (by omega) (by omega) (by omega) (by omega) hold .i64
  have hin : i + (n + 1 - i) = n + 1 := by omega
  have hci : ((n + 1 - i : Nat) : Int) = (n : Int) + 1 - (i : Int) := by omega
  rw [hin, hci] at hrun0
  obtain ⟨cap, hcapE⟩ : ∃ cap, cap = grownCap w (n + 1) n 3 := ⟨_, rfl⟩
  rw [← hcapE] at hrun0 hcap ⊢
  obtain ⟨row, hrow⟩ : ∃ row : Array Value, row = (cs.take i).toArray ++ Builtin.zeroCells (Value.int .i64 0).cells (n + 1 - i) ++ Builtin.zeroCells (Value.int .i64 0).cells (cap - (n + 1)) := ⟨_, rfl⟩
  rw [← hrow] at hrun0 ⊢
  have hrs : row.size = cap := by
    rw [hrow]; simp [Ev.zeroCells_size, Value.cells, hcl]; omega
  have hcellH : ∀ k, k < cap → ((w.drew.alloc (.cells row 3)).cell? ⟨w.heap.size, k, none⟩).isSome = true := fun k hk => by
    have : (w.drew.alloc (.cells row 3)).heap[w.heap.size]? = some (.cells row 3 (0, 0)) := by
      show (w.heap.push _)[w.heap.size]? = _
      simp
    unfold World.cell?
    simp only
    rw [this]
    simp [hrs, hk]
  have hfzH : ∀ k, (w.drew.alloc (.cells row 3)).frozen? ⟨w.heap.size, k, none⟩ = false := fun k => by
    have : (w.drew.alloc (.cells row 3)).heap[w.heap.size]? = some (.cells row 3 (0, 0)) := by
      show (w.heap.push _)[w.heap.size]? = _
      simp
    unfold World.frozen?
    simp only
    rw [this]
    simp
  have hcellO : ∀ (b' o : Nat), b' < w.heap.size → (w.drew.alloc (.cells row 3)).cell? ⟨b', o, none⟩ = w.cell? ⟨b', o, none⟩ := fun b' o hb' => by
    have : (w.drew.alloc (.cells row 3)).heap[b']? = w.heap[b']? := by
      show (w.heap.push _)[b']? = _
      rw [Array.getElem?_push, if_neg (by omega)]
    unfold World.cell?
    simp only
    rw [this]
  obtain ⟨W1, hW1⟩ : ∃ W1, W1 = w.drew.alloc (.cells row 3) := ⟨_, rfl⟩
  rw [← hW1] at hrun0 hcellH hfzH hcellO ⊢
  have hb2 : ¬ (cap = i) := by omega
  have hb3 : ¬ (cap = i + 1) := by omega
  have hb5 : ¬ (n = i) := by omega
  have hw1 : IntKind.i64.wrap ((i : Int) + 1) = (i : Int) + 1 := by rw [IntKind.wrap_i64]; omega
  have hb1 : (0 : Int) ≤ (i : Int) + 1 := by omega
  have hle : i ≤ n := by omega
  have htn : ((i : Int) + 1).toNat = i + 1 := by omega
  have hb6 : (i : Int) ≤ (n : Int) + 1 := by omega
  have hcp1 : ∀ ty dc, (Builtin.copy_ #[47, 47] ty #[.slice (some ⟨w.heap.size, i, none⟩) (n + 1 - i) dc, .slice (some ⟨vb, voff, none⟩) 1 vc]).run Tryz.prog W1 = .ok (goInt vs.length) (W1.setCells w.heap.size i vs) := fun ty dc =>
    run_copy_cells W1 _ _ ty 3 w.heap.size i (n + 1 - i) dc ⟨vb, voff, none⟩ 1 vc vs Tryz.underlying47 hsz (by rw [hvl]; simp only [Nat.min_def]; split <;> omega)
      (fun j v hj => by rw [Addr.add_lit, hcellO _ _ hvb]; exact hvs j v hj)
      (fun j hj => hcellH _ (by omega)) (fun j hj => hfzH _) h1v
  obtain ⟨W2, hW2⟩ : ∃ W2, W2 = W1.setCells w.heap.size i vs := ⟨_, rfl⟩
  rw [← hW2] at hcp1 ⊢
  have hcp2 : ∀ ty dc sc, (Builtin.copy_ #[47, 47] ty #[.slice (some ⟨w.heap.size, i + 1, none⟩) (n - i) dc, .slice (some ⟨b, off + i, none⟩) (n - i) sc]).run Tryz.prog W2.drew = .ok (goInt (cs.drop i).length) (W2.drew.setCells w.heap.size (i + 1) (cs.drop i)) := fun ty dc sc =>
    run_copy_cells W2.drew _ _ ty 3 w.heap.size (i + 1) (n - i) dc ⟨b, off + i, none⟩ (n - i) sc (cs.drop i) Tryz.underlying47 hsz (by rw [hdl]; simp only [Nat.min_def]; split <;> omega)
      (fun j v hj => by
        rw [Addr.add_lit, Nat.add_assoc]
        show W2.cell? _ = _
        rw [hW2, World.cell?_setCells_out _ _ _ _ _ (fun h _ => by simp only at h; omega), hcellO _ _ hbl]
        exact hcs (i + j) v (by rwa [List.getElem?_drop] at hj))
      (fun j hj => by
        show (W2.cell? _).isSome = true
        rw [hW2]
        exact isSome_setCells _ _ _ _ (fun k hk => hcellH _ (by omega)) _ (hcellH _ (by omega)))
      (fun j hj => by
        show W2.frozen? _ = false
        rw [hW2, World.frozen?_setCells]; exact hfzH _)
      (fun v hv => h1c v (List.mem_of_mem_drop hv))
  clear hold hcapE hrow hrs hcellH hfzH hcellO hW1 hW2
  go_enter Tryz.func288, Tryz.ntmps288
  go_wp2_with (at_builtin; refine Lib.wpList_append_run _ rfl _ _ _ _ rfl _ _ rfl rfl _ _ (hrun0 _) ?_)
  go_wp2_with (at_builtin; refine wpList_copy_runI _ rfl _ _ 47 47 rfl _ _ rfl rfl (hcp1 _ _) ?_)
  go_region_law (refine step_copy_runI rfl _ _ 47 47 rfl _ _ (by simp [Act.eval, Act.put]) (by simp [Act.eval, Act.put]) (hcp2 _ _ _) ?_)
  go_wp2
  go_ret
  exact ⟨rfl, rfl⟩
set_option maxHeartbeats 4000000 in
set_option maxRecDepth 100000 in
/-- slices.Delete of one element: in place. -/
theorem del_int (b off n c i : Nat) (cs : List Value) (w : World) (hi : i < n) (hnc : n ≤ c) (h9 : n + 1 ≤ 1099511627)
    (hcl : cs.length = n)
    (hcs : ∀ j v, cs[j]? = some v → w.cell? ⟨b, off + j, none⟩ = some v) (hsp : ∀ j, j < n → (w.cell? ⟨b, off + j, none⟩).isSome = true) (hfz : ∀ j, j < n → w.frozen? ⟨b, off + j, none⟩ = false)
    (h1c : ∀ v ∈ cs, v.oneCell' = true) :
    Calls Tryz.prog 319 #[.slice (some ⟨b, off, none⟩) n c, .int .i64 i, .int .i64 ((i : Int) + 1)] w fun e w' =>
      e = .returned (.slice (some ⟨b, off, none⟩) (n - 1) c) ∧ w' = (w.drew.setCells b (off + i) (cs.drop (i + 1))).setCells b (off + (n - 1)) [.int .i64 0] := by
  letI : Ev.Tok := ⟨fun _ => 0, fun _ => ByteArray.empty⟩
  have hb0 : ¬ ((i : Int) = (i : Int) + 1) := by omega
  have hw1 : IntKind.i64.wrap ((i : Int) + 1) = (i : Int) + 1 := by rw [IntKind.wrap_i64]; omega
  have hb1 : (0 : Int) ≤ (i : Int) + 1 := by omega
  have hb2 : (i : Int) + 1 ≤ (n : Int) := by omega
  have hb3 : (i : Int) ≤ (c : Int) := by omega
  have hb4 : (n : Int) ≤ (c : Int) := by omega
  have htn : ((i : Int) + 1).toNat = i + 1 := by omega
  have hn1 : i + (n - (i + 1)) = n - 1 := by omega
  have hdl : (cs.drop (i + 1)).length = n - (i + 1) := by rw [List.length_drop, hcl]
  have hb5 : ¬ (c = n - 1) := by omega
  have hb7 : (i : Int) ≤ (i : Int) + 1 := by omega
  have hst := run_storeCells_cells (P := Tryz.prog) b (off + i) (cs.drop (i + 1)) 0 w.drew (fun j hj => by rw [Nat.add_zero, Nat.add_assoc]; exact hsp _ (by omega)) (fun j hj => by rw [Nat.add_zero, Nat.add_assoc]; exact hfz _ (by omega)) (fun v hv => h1c v (List.mem_of_mem_drop hv))
  rw [Nat.add_zero] at hst
  have hap : ∀ (ty : TypeId) (u : Value), (∃ a cc, u = .slice (some a) (n - (i + 1)) cc ∧ ∀ j v, (cs.drop (i + 1))[j]? = some v → w.cell? (a.add j) = some v) →
      (Builtin.append_ #[47, 47] ty #[.slice (some ⟨b, off, none⟩) i c, u]).run Tryz.prog w.drew = .ok (.slice (some ⟨b, off, none⟩) (n - 1) c) (w.drew.setCells b (off + i) (cs.drop (i + 1))) := by
    rintro ty u ⟨a, cc, rfl, ha⟩
    have hl := run_loadCells_list (P := Tryz.prog) w.drew a (cs.drop (i + 1)) ha
    rw [hdl] at hl
    have := Ev.run_append_room (P := Tryz.prog) (ty := ty) (argTypes := #[47, 47]) (sT := 47) (xT := 47) (a := ⟨b, off, none⟩) (l := i) (c := c) (n := n - (i + 1)) (sz := 1) (y := .slice (some a) (n - (i + 1)) cc) (new := (cs.drop (i + 1)).toArray) (w := w.drew) rfl rfl Tryz.underlying47 (fun k => by simp) Tryz.underlying47 (by kernel_rfl) rfl (by simpa [Builtin.firstCells] using hl) (by omega)
      (by rw [Nat.mul_one, Addr.add_lit]; exact hst)
    rw [hn1] at this
    exact this
  obtain ⟨W1, hW1⟩ : ∃ W1, W1 = w.drew.setCells b (off + i) (cs.drop (i + 1)) := ⟨_, rfl⟩
  have hclr : ∀ ty cc, (Builtin.clear_ #[47] ty #[.slice (some ⟨b, off + (n - 1), none⟩) (n - (n - 1)) cc]).run Tryz.prog W1 = .ok (.tuple #[]) (W1.setCells b (off + (n - 1)) [.int .i64 0]) := by
    intro ty cc
    have hs2 := run_storeCells_cells (P := Tryz.prog) b (off + (n - 1)) [.int .i64 0] 0 W1
      (fun j hj => by
        have : j = 0 := by simpa using hj
        subst this
        simp only [Nat.add_zero]
        rw [hW1]
        exact isSome_setCells b _ _ _ (fun j hj => by rw [Nat.add_assoc]; exact hsp _ (by omega)) _ (hsp _ (by omega)))
      (fun j hj => by
        have : j = 0 := by simpa using hj
        subst this
        simp only [Nat.add_zero]
        rw [hW1, World.frozen?_setCells]; exact hfz _ (by omega)) (by simp [Value.oneCell'])
    simp only [Nat.add_zero] at hs2
    have hz : (zeroValue 3).run Tryz.prog W1 = .ok (.int .i64 0) W1 := Ev.run_tz (by kernel_rfl)
    have h1 : n - (n - 1) = 1 := by omega
    rw [h1]
    have hzc : (Builtin.zeroCells (Value.int .i64 0).cells 1).toList = [.int .i64 0] := by kernel_rfl
    unfold Builtin.clear_
    simp [run_underlying Tryz.underlying47, hz, hzc, hs2]
  have hs3 : ∀ j v, (cs.drop (i + 1))[j]? = some v → w.cell? ((⟨b, off + (i + 1), none⟩ : Addr).add j) = some v := fun j v hj => by
    rw [Addr.add_lit, Nat.add_assoc]; exact hcs _ v (by rwa [List.getElem?_drop] at hj)
  rw [← hW1] at hap ⊢
  by_cases hci : c = i + 1
  · have hap1 : ∀ ty, (Builtin.append_ #[47, 47] ty #[.slice (some ⟨b, off, none⟩) i c, .slice (some ⟨b, off, none⟩) (n - (i + 1)) (c - (i + 1))]).run Tryz.prog w.drew = .ok (.slice (some ⟨b, off, none⟩) (n - 1) c) W1 :=
      fun ty => hap ty _ ⟨_, _, rfl, fun j v hj => by
        have : cs.drop (i + 1) = [] := List.drop_eq_nil_of_le (by omega)
        rw [this] at hj; simp at hj⟩
    subst hci
    obtain rfl : n = i + 1 := by omega
    have hclr1 : ∀ ty cc, (Builtin.clear_ #[47] ty #[.slice (some ⟨b, off + i, none⟩) 1 cc]).run Tryz.prog W1 = .ok (.tuple #[]) (W1.setCells b (off + i) [.int .i64 0]) := fun ty cc => by
      have := hclr ty cc
      rw [Nat.add_sub_cancel, show i + 1 - i = 1 from by omega] at this
      exact this
    simp only [Nat.sub_self, Nat.add_sub_cancel] at hap1 ⊢
    clear hclr
    clear hap hst hcs hsp hfz hs3 hW1 hdl
    go_enter Tryz.func319, Tryz.ntmps319
    go_wp2
    go_region_law (refine step_append_runI rfl _ _ 47 47 rfl _ _ (by simp [Act.eval, Act.put]) (by simp [Act.eval, Act.put]) (hap1 _) ?_)
    go_wp2_with (at_builtin; refine wpList_clear_runI _ rfl _ 47 rfl _ rfl (hclr1 _ _) ?_)
    go_ret
    exact ⟨rfl, rfl⟩
  · have hap1 : ∀ ty, (Builtin.append_ #[47, 47] ty #[.slice (some ⟨b, off, none⟩) i c, .slice (some ⟨b, off + (i + 1), none⟩) (n - (i + 1)) (c - (i + 1))]).run Tryz.prog w.drew = .ok (.slice (some ⟨b, off, none⟩) (n - 1) c) W1 :=
      fun ty => hap ty _ ⟨_, _, rfl, hs3⟩
    clear hap hst hcs hsp hfz hs3 hW1 hdl
    go_enter Tryz.func319, Tryz.ntmps319
    go_wp2
    go_region_law (refine step_append_runI rfl _ _ 47 47 rfl _ _ (by simp [Act.eval, Act.put]) (by simp [Act.eval, Act.put]) (hap1 _) ?_)
    go_wp2_with (at_builtin; refine wpList_clear_runI _ rfl _ 47 rfl _ rfl (hclr _ _) ?_)
    go_ret
    exact ⟨rfl, rfl⟩
theorem insOk_byte : Ev.InsOk Tryz.prog 287 5 (.int .u8 0) := ⟨rfl, ins_shift_byte, ins_grow_byte⟩
theorem insOk_int : Ev.InsOk Tryz.prog 288 3 (.int .i64 0) := ⟨rfl, ins_shift_int, ins_grow_int⟩
theorem delOk_byte : Ev.DelOk Tryz.prog 318 (.int .u8 0) := ⟨rfl, del_byte⟩
theorem delOk_int : Ev.DelOk Tryz.prog 319 (.int .i64 0) := ⟨rfl, del_int⟩
def insL : List (Nat × TypeId) := [(287, 5), (288, 3)]
def delL : List (Nat × Value) := [(318, .int .u8 0), (319, .int .i64 0)]
theorem insL_ok : ∀ p ∈ insL, ∃ z, Ev.InsOk Tryz.prog p.1 p.2 z := by
  intro p hp
  simp only [insL, List.mem_cons, List.not_mem_nil, or_false] at hp
  rcases hp with rfl | rfl
  · exact ⟨_, insOk_byte⟩
  · exact ⟨_, insOk_int⟩
theorem delL_ok : ∀ p ∈ delL, Ev.DelOk Tryz.prog p.1 p.2 := by
  intro p hp
  simp only [delL, List.mem_cons, List.not_mem_nil, or_false] at hp
  rcases hp with rfl | rfl
  · exact delOk_byte
  · exact delOk_int
end Go.Proofs.YtedjimkpmmacoaaGreatDoor
