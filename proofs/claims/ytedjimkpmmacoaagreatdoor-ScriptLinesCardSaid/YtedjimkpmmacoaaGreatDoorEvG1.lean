/-
  A verified evaluator of the model's code, part G1 (own work): no condition; the theorem 'sound' of its last part is what a claim uses.
-/
import Derived.Test.YtedjimkpmmacoaaGreatDoorEvF
import Derived.Lib.UnsafeStr
namespace Go.Ev
set_option linter.all false
set_option linter.unusedVariables false
set_option linter.unusedSimpArgs false
set_option linter.unusedSectionVars false
set_option linter.unnecessarySimpa false
open Go Go.RowKit
variable [Tok] [Sym]
section
variable {P : Program} {B : Nat → Prop} {γ : Gh} {s : St} {w : World}

noncomputable def evLenS (P : Program) (t : TypeId) (x : Value) : Option Value :=
  match P.underlying t, x with
  | some .string, .float k i => Sym.len (.float k i)
  | _, _ => none
theorem evLenS_run (hs : SymOk P) {argTypes : Array TypeId} {t ty : TypeId} {x v : Value} (h0 : argTypes[0]? = some t) (he : evLenS P t x = some v) :
    (Builtin.len_ argTypes ty #[ren γ x]).run P w = .ok (ren γ v) w ∧ Wf s.n v := by
  unfold evLenS at he
  split at he
  · rename_i k i hu
    obtain ⟨h1, h2⟩ := hs.len k i v he
    refine ⟨?_, h1.mono (Nat.zero_le _)⟩
    rw [h2 γ]
    simp [Builtin.len_, h0, run_underlying hu, ren]
  · cases he
/-- Bytes of cells that hold just bytes. -/
noncomputable def bytesS : List Value → Option (List UInt8)
  | [] => some []
  | .int .u8 n :: l => if n = ((UInt8.ofNat n.toNat).toNat : Int) then (bytesS l).map (UInt8.ofNat n.toNat :: ·) else none
  | _ => none
theorem bytesS_spec : ∀ (l : List Value) (bs : List UInt8), bytesS l = some bs → l = bs.map fun x => Value.int .u8 (x.toNat : Int)
  | [], bs, h => by simp only [bytesS, Option.some.injEq] at h; subst h; rfl
  | v :: l, bs, h => by
    unfold bytesS at h
    split at h
    · rename_i heq; cases heq
    · rename_i n l' heq
      injection heq with h1 h2; subst h1 h2
      split at h
      · rename_i hn
        cases hb : bytesS l with
        | none => simp [hb] at h
        | some bs' =>
          simp [hb] at h
          rw [← h, bytesS_spec l bs' hb, List.map_cons, ← hn]
      · cases h
    · cases h
noncomputable def evUStr (P : Program) (s : St) (ts : Array TypeId) (a : Addr) (n : Nat) : OpR :=
  match ts.toList with
  | [pt, _] =>
    match P.underlying pt with
    | some (.pointer e) =>
      if n ≠ 0 ∧ n < 4294967296 ∧ (s.obj a.block).live = true ∧ (s.obj a.block).elem = e ∧ P.cellsOf e = 1 ∧ a.off + n ≤ (s.obj a.block).len then
        match bytesS ((List.range n).map fun k => Tr.get undef (s.obj a.block).cells (a.off + k)) with
        | some bs => .val (.string ⟨bs.toArray⟩) (s.setO a.block deadO)
        | none => .err
      else .err
    | _ => .err
  | _ => .err
theorem liesAt_row {e : TypeId} (hc : P.cellsOf e = 1) (count o n : Nat) (hn : o + n ≤ count) : liesAt P P.depth e count o e n = true := by
  have hd : P.depth = (2 * (P.types.size + Made.depth) + 1) + 1 := rfl
  rw [hd]
  simp only [liesAt, Bool.or_eq_true]
  left
  rw [hd]
  simp [rowAt, hc, hn, sameLayout, Nat.mod_one]
theorem run_ustr (pt it ty e : TypeId) (hp : P.underlying pt = some (.pointer e)) (hc : P.cellsOf e = 1) (a : Addr) (cells : Nat) (hsh : w.shape? a.block = some (e, cells)) (l : List UInt8) (h0 : l ≠ []) (hn : a.off + l.length ≤ cells) (h63 : l.length ≤ 9223372036854775807)
    (hcell : ∀ j x, l[j]? = some x → w.cell? (a.add j) = some (.int .u8 x.toNat)) :
    (Builtin.unsafeString_ #[pt, it] ty #[.pointer (some a), .int .i64 l.length]).run P w = .ok (.string ⟨l.toArray⟩) (w.freeze a l.length) := by
  have hl : l.length ≠ 0 := by simpa using h0
  have hlb := Lib.run_loadBytes (P := P) w l a .empty hcell
  have hlies := liesAt_row (P := P) hc (cells / P.cellsOf e) a.off l.length (by rw [hc]; simpa using hn)
  have h63' : ¬ (9223372036854775807 : Int) < (l.length : Int) := by omega
  obtain ⟨m0, m1, m2, hdef⟩ : ∃ m0 m1 m2 : String, Builtin.unsafeString_ #[pt, it] ty #[.pointer (some a), .int .i64 l.length] =
      (do
        let n ← asInt (.int .i64 l.length)
        if n < 0 then runtimePanic (.error m0)
        if n > IntKind.i64.max then unsupported (.unsafePointer m1)
        if n = 0 then pure (.string .empty)
        else if ← variablesAt a (← elemOf pt) n.toNat then do
          let s ← loadBytes a .empty n.toNat
          freeze a n.toNat
          pure (.string s)
        else unsupported (.unsafePointer m2)) := ⟨_, _, _, rfl⟩
  rw [hdef]
  have hmax : IntKind.i64.max = 9223372036854775807 := rfl
  have hneg : ¬ (l.length : Int) < 0 := by omega
  simp [asInt, asIntOf, hmax, h63', hneg, hl, variablesAt, hsh, elemOf, run_underlying hp, hlies, hlb]
theorem R.freezeDead (hR : R B γ s w) {i : Nat} (hl : (s.obj i).live = true) (o n : Nat) (hn : n ≠ 0) :
    R B γ (s.setO i deadO) (w.freeze ⟨γ.blk i, o, none⟩ n) ∧ Fr B w (w.freeze ⟨γ.blk i, o, none⟩ n) := by
  have hsize : (w.freeze ⟨γ.blk i, o, none⟩ n).heap.size = w.heap.size := by unfold World.freeze; split <;> simp
  have hoth : ∀ k, k ≠ γ.blk i → (w.freeze ⟨γ.blk i, o, none⟩ n).heap[k]? = w.heap[k]? := fun k hk => by
    unfold World.freeze
    split
    · rfl
    · simp only [Array.getElem?_modify]; rw [if_neg (Ne.symm hk)]
  have hb := hR.blk_lt hl
  obtain ⟨c, fz, hcell, _⟩ := hR.obj i hl
  have hk := hR.kill i
  have hne : ∀ j, ((s.setO i deadO).obj j).live = true → γ.blk j ≠ γ.blk i := fun j hj e => by
    rw [setO_obj] at hj
    split at hj
    · exact absurd hj (by decide)
    · rename_i hji; exact hji (hR.inj j i hj hl e)
  have hfr : Fr B w (w.freeze ⟨γ.blk i, o, none⟩ n) := ⟨by unfold World.freeze; split <;> rfl, by unfold World.freeze; split <;> rfl, by unfold World.freeze; split <;> rfl, by rw [hsize]; exact Nat.le_refl _, fun k hk' => hoth k fun e => hR.low i hl (e ▸ hk')⟩
  refine ⟨⟨hk.lt, fun j hj => by rw [hoth _ (hne j hj)]; exact hk.obj j hj, hk.wf, hk.cl, hk.inj, hk.low, by rw [hsize]; exact hk.bnd, hk.m.keep (fun j hj => hoth _ fun e => ?_) rfl (Nat.le_refl _) (Ext.refl _ _)⟩, hfr⟩
  have := hk.m.obj j hj
  rw [e, hcell] at this
  cases this
theorem evUStr_sim (hR : R B γ s w) {ts : Array TypeId} {ty : TypeId} {a : Addr} {n : Nat} :
    OpSim P B γ s w (do pure (.value (← Builtin.unsafeString_ ts ty #[.pointer (some (γ.at a)), .int .i64 n]))) (evUStr P s ts a n) := by
  unfold evUStr
  split
  · rename_i pt it hts
    split
    · rename_i e hu
      split
      · rename_i hc
        obtain ⟨h0, h32, hlive, hel, hce, hlen⟩ := hc
        split
        · rename_i bs hbs
          have hcs := bytesS_spec _ _ hbs
          have hbl : bs.length = n := by
            have := congrArg List.length hcs
            simpa using this.symm
          have htt : ts = #[pt, it] := by apply Array.ext'; simpa using hts
          obtain ⟨c, fz, hb, hf, hsz, hcell⟩ := hR.obj _ hlive
          have hrun := run_ustr (P := P) (w := w) pt it ty e hu hce (γ.at a) c.size (by simp only [World.shape?, Gh.at, hb, hel]) bs (by intro h; rw [h] at hbl; exact h0 hbl.symm) (by show γ.off a.block + a.off + bs.length ≤ c.size; omega) (by omega) (fun j x hx => by
            have hj : j < n := by
              have := (List.getElem?_eq_some_iff.1 hx).1; omega
            have e1 : Tr.get undef (s.obj a.block).cells (a.off + j) = .int .u8 x.toNat := by
              have h2 := congrArg (fun l => l[j]?) hcs
              simp only [List.getElem?_map, List.getElem?_range hj, hx, Option.map_some, Option.some.injEq] at h2
              exact h2
            have h3 := hcell (a.off + j) (by omega)
            rw [e1] at h3
            have e2 : (γ.at a).add j = ⟨γ.blk a.block, γ.off a.block + (a.off + j), none⟩ := by
              unfold Gh.at Addr.add
              split
              · rename_i hz; subst hz; simp
              · simp [Nat.add_assoc]
            rw [e2]
            simp only [World.cell?, hb]
            exact h3)
          rw [hbl] at hrun
          obtain ⟨q1, q2⟩ := hR.freezeDead hlive (γ.off a.block + a.off) n h0
          refine ⟨γ, _, ?_, Ext.refl _ _, q1, trivial, q2, Nat.le_refl _⟩
          rw [htt, Sem.run_bind, hrun]
          rfl
        · trivial
      · trivial
    · trivial
  · trivial
noncomputable def evBuiltin (P : Program) (s : St) (b : Builtin) (ts : Array TypeId) (args : List Value) : OpR :=
  match b, args with
  | .append, [x, y] =>
    match ts[0]?, (ts[1]?).bind P.underlying with
    | some _, some (.int _) => .err
    | some sT, some _ => valR (evAppend P s sT x y)
    | _, _ => .err
  | .len, [x] => match ts[0]? with | some t => (match evLen P t x with | some v => .val v s | none => match evLenM P s t x with | some v => .val v s | none => valP s (evLenS P t x)) | none => .err
  | .delete, [x, k] => match ts[0]? with | some t => valR (evDelete P s t x k) | none => .err
  | .cap, [x] => match ts[0]? with | some t => valP s (evCap P s t x) | none => .err
  | .copy, [x, y] => match ts[0]? with | some t => valR (evCopy P s t x y) | none => .err
  | .clear, [x] => match ts[0]? with | some t => valR (evClear P s t x) | none => .err
  | .min, [x, y] => valP s (evMin2 x y)
  | .max, [x, y] => valP s (evMax2 x y)
  | .min, [x, y, z] => valP s ((evMin2 x y).bind fun a => evMin2 a z)
  | .max, [x, y, z] => valP s ((evMax2 x y).bind fun a => evMax2 a z)
  | .unsafeSliceData, [.slice (some a) _ c] => if c ≠ 0 then .val (.pointer (some a)) s else .err
  | .unsafeSliceData, [.slice none _ 0] => .val (.pointer none) s
  | .unsafeString, [.pointer (some a), .int .i64 (.ofNat n)] => evUStr P s ts a n
  | .unsafeString, [.pointer none, .int .i64 0] => match ts.toList with
    | [_, _] => .val (.string .empty) s
    | _ => .err
  | _, _ => .err

theorem evMin2_run {x y v : Value} (he : evMin2 x y = some v) : (Builtin.min2 (ren γ x) (ren γ y)).run P w = .ok (ren γ v) w ∧ Wf s.n v := by
  unfold evMin2 at he
  split at he
  · split at he
    · rename_i hk; injection he with he; subst he hk; exact ⟨rfl, trivial⟩
    · cases he
  · cases he
theorem evMax2_run {x y v : Value} (he : evMax2 x y = some v) : (Builtin.max2 (ren γ x) (ren γ y)).run P w = .ok (ren γ v) w ∧ Wf s.n v := by
  unfold evMax2 at he
  split at he
  · split at he
    · rename_i hk; injection he with he; subst he hk; exact ⟨rfl, trivial⟩
    · cases he
  · cases he

theorem evBuiltin_sim (hs : SymOk P) (hR : R B γ s w) {b : Builtin} {ts : Array TypeId} {ty : TypeId} {cs : Array Bool} {args : List Value} (ha : ∀ v ∈ args, Wf s.n v) :
    OpSim P B γ s w (builtin b ts ty cs (args.map (ren γ)).toArray) (evBuiltin P s b ts args) := by
  unfold evBuiltin
  split
  · rename_i x y
    split
    · trivial
    · rename_i sT d hni h0 h1
      cases hx : ts[1]? with
      | none => rw [hx] at h1; cases h1
      | some xT =>
        rw [hx] at h1
        exact OpSim.ofSim fun v s' he => evAppend_sim hR h0 hx h1 (fun k e => hni k (by rw [e])) (ha x (by simp)) he
    · trivial
  · rename_i x
    split
    · rename_i t h0
      have h1 := OpSim.ofRun (P := P) hR (m := Builtin.len_ ts ty #[ren γ x]) (r := evLen P t x) fun v he => evLen_run h0 he
      have h2 := OpSim.ofRun (P := P) hR (m := Builtin.len_ ts ty #[ren γ x]) (r := evLenM P s t x) fun v he => evLenM_run hR h0 he
      have h3 := OpSim.ofRun (P := P) hR (m := Builtin.len_ ts ty #[ren γ x]) (r := evLenS P t x) fun v he => evLenS_run hs h0 he
      cases he : evLen P t x with
      | some v => rw [he] at h1; exact h1
      | none => cases he2 : evLenM P s t x with
        | some v => rw [he2] at h2; exact h2
        | none => exact h3
    · trivial
  · rename_i x k
    split
    · rename_i t h0
      exact OpSim.ofSim fun v s' he => evDelete_sim hR h0 (ha k (by simp)) he
    · trivial
  · split
    · rename_i t h0
      exact OpSim.ofRun hR fun v he => evCap_run hR h0 he
    · trivial
  · split
    · rename_i t h0
      exact OpSim.ofSim fun v s' he => evCopy_sim hR h0 he
    · trivial
  · split
    · rename_i t h0
      exact OpSim.ofSim fun v s' he => evClear_sim hR h0 he
    · trivial
  · exact OpSim.ofRun hR fun v he => by
      obtain ⟨h1, h2⟩ := evMin2_run (P := P) (γ := γ) (s := s) (w := w) he
      exact ⟨by simp [Builtin.min_, h1], h2⟩
  · exact OpSim.ofRun hR fun v he => by
      obtain ⟨h1, h2⟩ := evMax2_run (P := P) (γ := γ) (s := s) (w := w) he
      exact ⟨by simp [Builtin.max_, h1], h2⟩
  · rename_i x y z
    exact OpSim.ofRun hR fun v he => by
      cases hq : evMin2 x y with
      | none => simp [hq] at he
      | some a =>
        simp [hq] at he
        obtain ⟨h1, _⟩ := evMin2_run (P := P) (γ := γ) (s := s) (w := w) hq
        obtain ⟨h3, h4⟩ := evMin2_run (P := P) (γ := γ) (s := s) (w := w) he
        exact ⟨by simp [Builtin.min_, h1, h3], h4⟩
  · rename_i x y z
    exact OpSim.ofRun hR fun v he => by
      cases hq : evMax2 x y with
      | none => simp [hq] at he
      | some a =>
        simp [hq] at he
        obtain ⟨h1, _⟩ := evMax2_run (P := P) (γ := γ) (s := s) (w := w) hq
        obtain ⟨h3, h4⟩ := evMax2_run (P := P) (γ := γ) (s := s) (w := w) he
        exact ⟨by simp [Builtin.max_, h1, h3], h4⟩
  · rename_i a l c
    split
    · rename_i hc
      have hwf : Wf s.n (.slice (some a) l c) := ha (.slice (some a) l c) (by simp)
      refine ⟨γ, w, ?_, Ext.refl _ _, hR, hwf, Fr.refl _ _, Nat.le_refl _⟩
      have hne : c + γ.ext a.block ≠ 0 := by omega
      have hdef : Builtin.unsafeSliceData_ ts ty #[.slice (some (γ.at a)) l (c + γ.ext a.block)] =
          (do
            if (c + γ.ext a.block) ≠ 0 then pure (.pointer (some (γ.at a)))
            else if (← viewAt (γ.at a).block).isSome then pure (.pointer (some (γ.at a)))
            else pure (.pointer (some ⟨← newObj (.view (γ.at a) (← elemOf ty)), 0, none⟩))) := rfl
      show (do pure (.value (← Builtin.unsafeSliceData_ ts ty #[.slice (some (γ.at a)) l (c + γ.ext a.block)])) : Sem Next).run P w = _
      rw [hdef, if_pos hne]
      rfl
    · trivial
  · refine ⟨γ, w, ?_, Ext.refl _ _, hR, trivial, Fr.refl _ _, Nat.le_refl _⟩
    rfl
  · rename_i a n
    exact evUStr_sim hR
  · split
    · rename_i p q hts
      have htt : ts = #[p, q] := by apply Array.ext'; simpa using hts
      refine ⟨γ, w, ?_, Ext.refl _ _, hR, trivial, Fr.refl _ _, Nat.le_refl _⟩
      have hrun := Lib.run_unsafeString_none (P := P) w p q ty none
      show (do pure (.value (← Builtin.unsafeString_ ts ty #[.pointer none, .int .i64 0])) : Sem Next).run P w = _
      rw [htt, Sem.run_bind, hrun]
      rfl
    · trivial
  · trivial

noncomputable def evAssert (P : Program) (t : TypeId) (ok : Bool) (x : Value) : Option Value :=
  match P.underlying t, x with
  | some (.interface _), _ => none
  | some _, .iface u v => if u = t then some (if ok = true then .tuple #[v, .bool true] else v)
    else if ok = true then match tz P t with
      | some z => if flat z = true then some (.tuple #[z, .bool false]) else none
      | none => none
    else none
  | _, _ => none
theorem evAssert_run {t xT : TypeId} {ok : Bool} {x v : Value} (hx : Wf s.n x) (he : evAssert P t ok x = some v) :
    (Instr.typeAssert (ren γ x) xT t ok).run P w = .ok (ren γ v) w ∧ Wf s.n v := by
  unfold evAssert at he
  split at he
  · cases he
  · rename_i d u q hni hu
    split at he
    · rename_i hut
      injection he with he; subst he hut
      have hq : Wf s.n q := hx
      refine ⟨?_, by cases ok <;> simp [Wf_tuple, hq, Wf]⟩
      cases d with
      | interface ms => exact (hni ms rfl).elim
      | _ => cases ok <;> simp [Instr.typeAssert, run_underlying hu, ren, ren_tuple]
    · rename_i hut
      split at he
      · rename_i hok
        subst hok
        split at he
        · rename_i z hz
          split at he
          · rename_i hf
            injection he with he; subst he
            refine ⟨?_, (Wf_tuple _ _).2 (fun x hx => by
              have hx' : x = z ∨ x = .bool false := by simpa using hx
              rcases hx' with rfl | rfl
              · exact flat_wf s.n hf
              · trivial)⟩
            have hr : ren γ (.tuple #[z, .bool false]) = .tuple #[z, .bool false] := by
              have h2 : ren γ (.bool false) = .bool false := rfl
              rw [ren_tuple]; simp [flat_ren γ hf, h2]
            rw [hr]
            cases d with
            | interface ms => exact (hni ms rfl).elim
            | _ => simp [Instr.typeAssert, run_underlying hu, ren, hut, run_tz hz]
          · cases he
        · cases he
      · cases he
  · cases he

end
end Go.Ev
