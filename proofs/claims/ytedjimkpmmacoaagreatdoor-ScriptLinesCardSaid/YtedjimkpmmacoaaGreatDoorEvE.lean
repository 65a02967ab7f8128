/-
  A verified evaluator of the model's code, part E (own work): no condition; the theorem 'sound' of its last part is what a claim uses.
-/
import Derived.Test.YtedjimkpmmacoaaGreatDoorEvD
import Derived.Laws.NewFold
import Derived.Lib.Builder
namespace Go.Ev
set_option linter.all false
set_option linter.unusedVariables false
set_option linter.unusedSimpArgs false
set_option linter.unusedSectionVars false
set_option linter.unnecessarySimpa false
open Go Go.RowKit
variable [Tok]
section
variable {P : Program} {B : Nat → Prop} {γ : Gh} {s : St} {w : World}

def evUn (op : UnOp) (x : Value) : Option Value :=
  match op, x with
  | .not, .bool b => some (.bool !b)
  | .neg, .int k n => some (.int k (k.wrap (0 - n)))
  | .xor, .int k n => some (.int k (k.wrap (BitVec.ofInt k.bits (if k.signed then -1 else k.max) ^^^ BitVec.ofInt k.bits n).toNat))
  | _, _ => none
theorem evUn_run {op : UnOp} {x v : Value} (he : evUn op x = some v) : (Op.unary op (ren γ x)).run P w = .ok (ren γ v) w ∧ Wf s.n v := by
  unfold evUn at he
  split at he
  · injection he with he; subst he; exact ⟨rfl, trivial⟩
  · injection he with he; subst he; exact ⟨rfl, trivial⟩
  · injection he with he; subst he; exact ⟨rfl, trivial⟩
  · cases he

/-- the bytes of cells that are bytes -/
def bytesOf : List Value → Option (List UInt8)
  | [] => some []
  | .int .u8 n :: l => (bytesOf l).map (UInt8.ofNat n.toNat :: ·)
  | _ => none

noncomputable def evConv (P : Program) (s : St) (src dst : TypeId) (x : Value) : Option (Value × St) :=
  match P.underlying src, P.underlying dst, x with
  | some _, some (.int k), .int _ n => some (.int k (k.wrap n), s)
  | some _, some .string, .string b => some (.string b, s)
  | some _, some (.slice e), .string b =>
    match P.underlying e with
    | some (.int .u8) => some (.slice (some ⟨s.n, 0, none⟩) b.data.toList.length b.data.toList.length, (s.mk' e 1 true (b.data.toList.map fun c => .int .u8 c.toNat)).unraw s.n)
    | _ => none
  | some (.slice e), some (.slice e2), .slice (some a) l c =>
    match P.underlying e2 with
    | some (.int .u8) => if src = dst ∧ (s.obj a.block).live = true then some (.slice (some a) l c, s.unraw a.block) else none
    | _ => none
  | some (.slice e), some .string, .slice none _ 0 =>
    match P.underlying e with
    | some (.int .u8) => some (.string ByteArray.empty, s)
    | _ => none
  | some (.slice e), some .string, .slice (some a) l _ =>
    match P.underlying e with
    | some (.int .u8) => if l = 0 then some (.string ByteArray.empty, s) else ((ldL s a l).bind bytesOf).map fun bs => (.string ⟨bs.toArray⟩, s)
    | _ => none
  | some (.pointer t), some .unsafePointer, .pointer (some a) =>
    match P.info? t with
    | some j => if j.size ≠ 0 ∧ (s.obj a.block).live = true ∧ a.off < (s.obj a.block).len then some (.pointer (some a), s) else none
    | none => none
  | some .unsafePointer, some (.pointer u), .pointer (some a) =>
    match P.info? u with
    | some _ => if (s.obj a.block).live = true ∧ (s.obj a.block).opn = false ∧ liesAt P P.depth (s.obj a.block).elem ((s.obj a.block).len / P.cellsOf (s.obj a.block).elem) a.off u 1 = true then some (.pointer (some a), s) else none
    | none => none
  | _, _, _ => none

theorem bytesOf_spec : ∀ (l : List Value) (bs : List UInt8), bytesOf l = some bs → ∃ ns : List Int, l = ns.map (Value.int .u8) ∧ bs = ns.map fun n => UInt8.ofNat n.toNat
  | [], bs, h => by simp only [bytesOf, Option.some.injEq] at h; subst h; exact ⟨[], rfl, rfl⟩
  | v :: l, bs, h => by
    unfold bytesOf at h
    split at h
    · rename_i heq; cases heq
    · rename_i n l' heq
      injection heq with h1 h2; subst h1 h2
      cases hb : bytesOf l with
      | none => simp [hb] at h
      | some bs' =>
        simp [hb] at h
        obtain ⟨ns, h1, h2⟩ := bytesOf_spec l bs' hb
        exact ⟨n :: ns, by rw [h1]; rfl, by rw [← h, h2]; rfl⟩
    · cases h

theorem foldl_push (ns : List Int) : ∀ (r : ByteArray), ns.foldl (fun r n => r.push (UInt8.ofNat n.toNat)) r = ⟨(r.data.toList ++ ns.map fun n => UInt8.ofNat n.toNat).toArray⟩ := by
  induction ns with
  | nil => intro r; simp
  | cons n ns ih =>
    intro r
    rw [List.foldl_cons, ih]
    congr 2
    simp [ByteArray.push]

theorem freeze_heap (w : World) (b n : Nat) (c : Array Value) (t : TypeId) (fz : Nat × Nat) (h : w.heap[b]? = some (.cells c t fz)) :
    (w.freeze ⟨b, n, none⟩ 1).heap[b]? = some (.cells c t (if fz.1 == fz.2 then (n, n + 1) else (min fz.1 n, max fz.2 (n + 1)))) ∧ ∀ k, k ≠ b → (w.freeze ⟨b, n, none⟩ 1).heap[k]? = w.heap[k]? := by
  refine ⟨?_, fun k hk => ?_⟩
  · simp [World.freeze, Array.getElem?_modify, h]
  · simp only [World.freeze, Nat.one_ne_zero, if_false]
    rw [Array.getElem?_modify, if_neg (Ne.symm hk)]

theorem R.freeze (hR : R B γ s w) {i : Nat} (hl : (s.obj i).live = true) {n : Nat} (hn : ∀ c t fz, w.heap[γ.blk i]? = some (.cells c t fz) → n = c.size) :
    R B γ (s.unraw i) (w.freeze ⟨γ.blk i, n, none⟩ 1) ∧ Fr B w (w.freeze ⟨γ.blk i, n, none⟩ 1) := by
  obtain ⟨c, fz, hb, hf, hsz, hc⟩ := hR.obj i hl
  have hh := freeze_heap w (γ.blk i) n c _ fz hb
  have hsize : (w.freeze ⟨γ.blk i, n, none⟩ 1).heap.size = w.heap.size := by simp [World.freeze]
  have hnc := hn _ _ _ hb
  have hlive : ∀ j, ((s.unraw i).obj j).live = (s.obj j).live := by intro j; rw [unraw_obj]; split <;> simp_all
  have hopn : ∀ j, ((s.unraw i).obj j).opn = (s.obj j).opn := by intro j; rw [unraw_obj]; split <;> simp_all
  have hcells : ∀ j, ((s.unraw i).obj j).cells = (s.obj j).cells ∧ ((s.unraw i).obj j).len = (s.obj j).len ∧ ((s.unraw i).obj j).elem = (s.obj j).elem ∧ ((s.unraw i).obj j).sz = (s.obj j).sz := by
    intro j; rw [unraw_obj]; split <;> simp_all
  refine ⟨⟨fun j hj => hR.lt j (by rwa [hlive] at hj), fun j hj => ?_, fun j hj k hk => ?_, fun j hj ho => hR.cl j (by rwa [hlive] at hj) (by rwa [hopn] at ho), fun j k hj hk => hR.inj j k (by rwa [hlive] at hj) (by rwa [hlive] at hk), fun j hj => hR.low j (by rwa [hlive] at hj), by rw [hsize]; exact hR.bnd, hR.m.keep (fun j hj => hh.2 _ (fun e => by have := hR.m.obj j hj; rw [e, hb] at this; cases this)) rfl (Nat.le_refl _) (Ext.refl _ _)⟩, ?_⟩
  · rw [hlive] at hj
    obtain ⟨e1, e2, e3, e4⟩ := hcells j
    rw [e1, e2, e3, e4]
    by_cases e : j = i
    · subst e
      refine ⟨c, _, hh.1, ?_, hsz, hc⟩
      left
      refine ⟨?_, by rw [unraw_obj, if_pos rfl]⟩
      rcases hf with ⟨hf, _⟩ | rfl
      · split <;> simp <;> omega
      · simp; omega
    · obtain ⟨c', fz', hb', r⟩ := hR.obj j hj
      rw [unraw_obj, if_neg e]
      exact ⟨c', fz', by rw [hh.2 _ (fun e' => e (hR.inj j i hj hl e'))]; exact hb', r⟩
  · rw [hlive] at hj
    obtain ⟨e1, e2, e3, e4⟩ := hcells j
    rw [e1]; rw [e2] at hk
    exact hR.wf j hj k hk
  · refine ⟨by simp [World.freeze], by simp [World.freeze], by simp [World.freeze], by rw [hsize]; exact Nat.le_refl _, fun k hk => hh.2 k (fun e => hR.low i hl (e ▸ hk))⟩

theorem evConv_sim (hR : R B γ s w) {src dst : TypeId} {x v : Value} {s' : St} (hx : Wf s.n x) (he : evConv P s src dst x = some (v, s')) :
    Sim P B γ s w (convert src dst (ren γ x)) v s' := by
  unfold evConv at he
  split at he
  · rename_i d k q n hs hd
    injection he with he; injection he with h1 h2; subst h1 h2
    refine Sim.same hR ?_ trivial
    simp [convert, run_underlying hs, run_underlying hd, ren, Conv.intToInt]
  · rename_i d b hs hd
    injection he with he; injection he with h1 h2; subst h1 h2
    refine Sim.same hR ?_ trivial
    cases d <;> simp [convert, run_underlying hs, run_underlying hd, ren]
  · rename_i d e b hs hd
    split at he
    · rename_i hu8
      injection he with he; injection he with h1 h2; subst h1 h2
      have hlen : b.data.toList.length = b.size := (Array.length_toList : b.data.toList.length = b.data.size)
      let cap := grownCap w b.size 0 e
      have hcap : b.size ≤ cap := by simp [cap, grownCap, Question.cut]
      let c : Array Value := b.data.map (fun b => Value.int .u8 b.toNat) ++ Array.replicate (cap - b.size) (.int .u8 0)
      have hcs : c.size = cap := by
        have : b.data.size = b.size := rfl
        simp [c, this]; omega
      have hR1 : R B γ s w.drew := hR.of_heap rfl
      have hR2 := hR1.alloc (raw := true) (elem := e) (sz := 1) (opn := true) (vs := b.data.toList.map fun c => .int .u8 c.toNat) (e := cap - b.size) (c := c) (fz := (0, 0)) rfl
        (by rw [hcs, List.length_map, hlen]; omega)
        (fun k hk => by
          have hk2 : k < (b.data.map (fun b => Value.int .u8 b.toNat)).size := by simpa using hk
          show (_ ++ _)[k]? = _
          rw [Array.getElem?_append_left hk2, ← Array.getElem?_toList, Array.toList_map, getD_some hk]
          congr 1
          have : ∀ v ∈ b.data.toList.map (fun c => Value.int .u8 (c.toNat : Int)), ren γ v = v := by
            intro v hv
            obtain ⟨x, _, rfl⟩ := List.mem_map.1 hv
            rfl
          exact (this _ (by rw [List.getD, List.getElem?_eq_getElem hk]; exact List.getElem_mem _)).symm)
        (fun v hv => by obtain ⟨x, _, rfl⟩ := List.mem_map.1 hv; trivial) (fun h => by cases h)
      have hnew : ((s.mk' e 1 true (b.data.toList.map fun c => .int .u8 c.toNat)).obj s.n).live = true := by rw [mk'_obj, if_pos rfl]
      have hblk : (γ.put s.n w.drew.heap.size 0 (cap - b.size)).blk s.n = w.heap.size := by simp [Gh.put]
      have hat : (w.drew.alloc (.cells c e)).heap[w.heap.size]? = some (.cells c e (0, 0)) := by
        show (w.heap.push _)[w.heap.size]? = _
        simp
      have hfz := hR2.freeze (i := s.n) hnew (n := cap) (by
        intro c' t fz h
        rw [hblk, hat] at h
        injection h with h; injection h with h
        rw [← h, hcs])
      rw [hblk] at hfz
      refine ⟨γ.put s.n w.drew.heap.size 0 (cap - b.size), _, ?_, Ext.put _ _ _ _ _, hfz.1, Nat.lt_succ_self _, ((Fr.refl B w).drew.alloc hR1.bnd _).trans hfz.2, Nat.le_succ _⟩
      have hshape : (w.drew.alloc (.cells c e)).shape? w.heap.size = some (e, cap) := by
        simp only [World.shape?, hat, hcs]
      have hconv : (convert src dst (ren γ (.string b))).run P w = (Conv.stringToBytes e b).run P w := by
        cases d <;> simp [convert, run_underlying hs, run_underlying hd, run_underlying hu8, ren]
      rw [hconv]
      simp only [Conv.stringToBytes, Sem.run_bind, run_choose_drew, Question.forced, Bool.false_eq_true, if_false, Result.andThen_ok, newRow, run_newObj_alloc, Sem.run_pure, markStringish, run_shape]
      show ((match (w.drew.alloc (.cells c e)).shape? w.heap.size with | some (_, n) => _ | _ => _ : Sem Unit).run P _).andThen _ = _
      rw [hshape]
      simp [ren, Gh.at, Gh.put, hlen]
      refine ⟨?_, rfl⟩
      show cap = b.size + (cap - b.size)
      omega
    · cases he
  · rename_i e e2 a l c hs hd
    split at he
    · rename_i hu8
      split at he
      · rename_i hc
        injection he with he; injection he with h1 h2; subst h1 h2
        obtain ⟨rfl, hlive⟩ := hc
        obtain ⟨cc, fz, hb, hf, hsz, _⟩ := hR.obj _ hlive
        have hfz := hR.freeze hlive (n := cc.size) (by
          intro c' t fz h
          rw [hb] at h
          injection h with h; injection h with h
          rw [h])
        refine ⟨γ, _, ?_, Ext.refl _ _, hfz.1, hx, hfz.2, Nat.le_refl _⟩
        have hshape : w.shape? (γ.blk a.block) = some ((s.obj a.block).elem, cc.size) := by simp only [World.shape?, hb]
        rw [hs] at hd; injection hd with hd; injection hd with hd; subst hd
        simp [convert, run_underlying hs, run_underlying hu8, ren, markStringish, Gh.at, hshape]
      · cases he
    · cases he
  · rename_i e l hs hd
    split at he
    · rename_i hu8
      injection he with he; injection he with h1 h2; subst h1 h2
      refine Sim.same hR ?_ trivial
      show (convert src dst (.slice none l 0)).run P w = _
      rw [run_convert_bytes_string w src dst e none l 0 hs hu8 hd]
      rfl
    · cases he
  · rename_i e a l c hs hd
    split at he
    · rename_i hu8
      split at he
      · rename_i hl0
        injection he with he; injection he with h1 h2; subst h1 h2 hl0
        refine Sim.same hR ?_ trivial
        show (convert src dst (.slice (some (γ.at a)) 0 (c + γ.ext a.block))).run P w = _
        rw [run_convert_bytes_string w src dst e _ _ _ hs hu8 hd]
        have := run_bytesToString (P := P) w (γ.at a) 0 (c + γ.ext a.block) [] rfl
        exact this
      · cases hl : ldL s a l with
        | none => simp [hl] at he
        | some cells =>
          cases hb : bytesOf cells with
          | none => simp [hl, hb] at he
          | some bs =>
            simp [hl, hb] at he
            obtain ⟨h1, h2⟩ := he; subst h1 h2
            obtain ⟨hr, _, _⟩ := hR.ld (P := P) hl
            obtain ⟨ns, rfl, rfl⟩ := bytesOf_spec _ _ hb
            refine Sim.same hR ?_ trivial
            show (convert src dst (.slice (some (γ.at a)) l (c + γ.ext a.block))).run P w = _
            rw [run_convert_bytes_string w src dst e _ _ _ hs hu8 hd]
            have hm : (ns.map (Value.int .u8)).map (ren γ) = ns.map (Value.int .u8) := by rw [List.map_map]; rfl
            rw [hm] at hr
            rw [run_bytesToString w (γ.at a) l _ ns hr, foldl_push]
            rfl
    · cases he
  · rename_i t a hs hd
    cases hj : P.info? t with
    | none => rw [hj] at he; cases he
    | some j =>
      rw [hj] at he
      simp only at he
      split at he
      · rename_i hc
        injection he with he; injection he with h1 h2; subst h1 h2
        obtain ⟨h0, hlive, hlt⟩ := hc
        obtain ⟨cc, fz, hb, hf, hsz, _⟩ := hR.obj _ hlive
        refine Sim.same hR ?_ hx
        exact Lib.run_to_unsafe w (γ.at a) hs hd hj h0 (e := (s.obj a.block).elem) (cells := cc.size) (by simp only [World.shape?, Gh.at, hb]) (by show γ.off a.block + a.off < cc.size; omega)
      · cases he
  · rename_i u a hs hd
    cases hj : P.info? u with
    | none => rw [hj] at he; cases he
    | some j =>
      rw [hj] at he
      simp only at he
      split at he
      · rename_i hc
        injection he with he; injection he with h1 h2; subst h1 h2
        obtain ⟨hlive, hop, hlies⟩ := hc
        obtain ⟨cc, fz, hb, hf, hsz, _⟩ := hR.obj _ hlive
        obtain ⟨e0, o0⟩ := hR.cl _ hlive hop
        rw [e0, o0, Nat.zero_mul, Nat.zero_add, Nat.add_zero] at hsz
        refine Sim.same hR ?_ hx
        exact Lib.run_from_unsafe w (γ.at a) hs hd hj (e := (s.obj a.block).elem) (cells := cc.size) (by simp only [World.shape?, Gh.at, hb]) (by
          show liesAt P P.depth _ _ (γ.off a.block + a.off) u 1 = true
          rw [o0, Nat.zero_add, ← hsz]; exact hlies)
      · cases he
  · cases he
end
end Go.Ev
