/-
  A verified evaluator of the model's code, part F (own work): no condition; the theorem 'sound' of its last part is what a claim uses.
-/
import Derived.Test.YtedjimkpmmacoaaGreatDoorEvF0
import Derived.Lib.Overlaps
namespace Go.Ev
set_option linter.all false
set_option linter.unusedVariables false
set_option linter.unusedSimpArgs false
set_option linter.unusedSectionVars false
set_option linter.unnecessarySimpa false
open Go Go.RowKit
variable [Tok] [Sym]
section
variable {P : Program} {B : Nat → Prop} {γ : Gh} {s : St} {w : World}

inductive OpR where
  | val (v : Value) (s : St)
  | skip (s : St)
  | call (f : FuncId) (args : List Value)
  | err

def OpSim (P : Program) (B : Nat → Prop) (γ : Gh) (s : St) (w : World) (m : Sem Next) : OpR → Prop
  | .val v s' => ∃ γ' w', m.run P w = .ok (.value (ren γ' v)) w' ∧ Ext s.n γ γ' ∧ R B γ' s' w' ∧ Wf s'.n v ∧ Fr B w w' ∧ s.n ≤ s'.n
  | .skip s' => ∃ w', m.run P w = .ok .skip w' ∧ R B γ s' w' ∧ Fr B w w' ∧ s'.n = s.n
  | .call f args => m.run P w = .ok (.enter f (args.map (ren γ)).toArray) w ∧ ∀ v ∈ args, Wf s.n v
  | .err => True

def valR : Option (Value × St) → OpR
  | some (v, s) => .val v s
  | none => .err
def valP (s : St) : Option Value → OpR
  | some v => .val v s
  | none => .err

theorem OpSim.ofSim {m : Sem Value} {r : Option (Value × St)} (h : ∀ v s', r = some (v, s') → Sim P B γ s w m v s') :
    OpSim P B γ s w (do pure (.value (← m))) (valR r) := by
  cases r with
  | none => trivial
  | some x =>
    obtain ⟨v, s'⟩ := x
    obtain ⟨γ', w', hr, rest⟩ := h v s' rfl
    exact ⟨γ', w', by rw [Sem.run_bind, hr]; rfl, rest⟩
theorem OpSim.ofRun (hR : R B γ s w) {m : Sem Value} {r : Option Value} (h : ∀ v, r = some v → m.run P w = .ok (ren γ v) w ∧ Wf s.n v) :
    OpSim P B γ s w (do pure (.value (← m))) (valP s r) := by
  cases r with
  | none => trivial
  | some v =>
    obtain ⟨hr, hw⟩ := h v rfl
    exact ⟨γ, w, by rw [Sem.run_bind, hr]; rfl, Ext.refl _ _, hR, hw, Fr.refl _ _, Nat.le_refl _⟩

noncomputable def okFunc (P : Program) (g : FuncId) : Bool :=
  match P.funcs[g]? with
  | some fn => fn.body.isSome && !(fn.name == "runtime.NumGoroutine")
  | none => false
theorem callFunc_run {g : FuncId} {args : List Value} (h : okFunc P g = true) :
    (callFunc g args.toArray).run P w = .ok (.enter g args.toArray) w := by
  unfold okFunc at h
  split at h
  · rename_i fn hf
    simp only [Bool.and_eq_true, Bool.not_eq_true'] at h
    obtain ⟨hb, hn⟩ := h
    have hne : ¬ fn.name = "runtime.NumGoroutine" := by simpa using hn
    have hbn : ¬ fn.body = none := by intro e; rw [e] at hb; cases hb
    unfold callFunc
    simp [hf, hne, hbn]
  · cases h

/-- The receiver of a method that an interface value's type has itself. -/
noncomputable def evMeth (P : Program) (s : St) (t : TypeId) (v : Value) (name : String) : Option (FuncId × Value) :=
  match (P.info? t).bind fun i => i.methods.find? (·.name == name) with
  | some m =>
    if m.path.toList.isEmpty = true then
      match m.func, P.underlying t with
      | some (f, true), some (.pointer _) => some (f, v)
      | some (f, false), some (.pointer e) => match v with
        | .pointer (some _) => (evLoad P s e v).map fun x => (f, x)
        | _ => none
      | some (f, false), some _ => some (f, v)
      | _, _ => none
    else none
  | none => none
theorem evMeth_run (hR : R B γ s w) {t : TypeId} {v r : Value} {name : String} {f : FuncId} {n : Nat} (hv : Wf s.n v) (he : evMeth P s t v name = some (f, r)) :
    (method (n + 1) t (ren γ v) name).run P w = .ok (f, ren γ r) w ∧ Wf s.n r := by
  unfold evMeth at he
  cases hi : P.info? t with
  | none => simp [hi] at he
  | some i =>
    cases hm : i.methods.find? (·.name == name) with
    | none => simp [hi, hm] at he
    | some m =>
      simp only [hi, hm, Option.bind_some] at he
      split at he
      · rename_i hp
        have hp' : m.path.toList = [] := by simpa using hp
        have hpe : m.path = #[] := by apply Array.ext'; simpa using hp'
        split at he
        · rename_i f' e hfn hu
          injection he with he; injection he with h1 h2; subst h1 h2
          refine ⟨?_, hv⟩
          simp [method, run_typeInfo w hi, hm, hp', follow, hfn, receiverAt, run_underlying hu, Place.get]
        · rename_i f' e hfn hu
          split at he
          · rename_i a
            cases hl : evLoad P s e (.pointer (some a)) with
            | none => simp [hl] at he
            | some x =>
              simp [hl] at he
              obtain ⟨h1, h2⟩ := he; subst h1 h2
              obtain ⟨hr, hw⟩ := evLoad_run (P := P) hR hl
              refine ⟨?_, hw⟩
              have hr' : (loadVar e (γ.at a)).run P w = .ok (ren γ x) w := by
                simpa [Instr.loadAt, ren, Instr.sureAddr] using hr
              have hssa : ∀ nm : String, (Builtin.ssaWrapNilChk_ #[t] t #[.pointer (some (γ.at a)), strVal "", strVal nm]).run P w = .ok (.pointer (some (γ.at a))) w := fun nm => rfl
              simp [method, run_typeInfo w hi, hm, hp', hpe, follow, hfn, receiverAt, run_underlying hu, Place.get, ren, hssa, asAddr, hr']
          · cases he
        · rename_i f' d hnp hfn hu
          injection he with he; injection he with h1 h2; subst h1 h2
          refine ⟨?_, hv⟩
          cases d with
          | pointer e => exact (hnp e rfl).elim
          | _ => simp [method, run_typeInfo w hi, hm, hp', follow, hfn, receiverAt, run_underlying hu, Place.get]
        · cases he
      · cases he

/-- A byte's first place. -/
noncomputable def idx (c : UInt8) : List UInt8 → Nat → Int
  | [], _ => -1
  | b :: l, i => if b = c then (i : Int) else idx c l (i + 1)
theorem idx_at (b : ByteArray) (c : UInt8) : ∀ (n k : Nat), k + n = b.size →
    (match (List.range' k n).find? (fun i => b[i]! == c) with | some i => (i : Int) | none => -1) = idx c (b.data.toList.drop k) k
  | 0, k, h => by
    have : b.data.toList.drop k = [] := List.drop_eq_nil_of_le (by have : b.size = b.data.toList.length := rfl; omega)
    rw [this]; rfl
  | n + 1, k, h => by
    have hk : k < b.size := by omega
    have hl : k < b.data.toList.length := hk
    have hd : b.data.toList.drop k = b.data.toList[k] :: b.data.toList.drop (k + 1) := List.drop_eq_getElem_cons hl
    have hb : b[k]! = b.data.toList[k] := by rw [getElem!_pos b k hk]; rfl
    rw [hd, List.range'_succ, List.find?_cons]
    simp only [idx]
    by_cases hc : b.data.toList[k] = c
    · rw [if_pos hc, hb]; simp [hc]
    · rw [if_neg hc, hb]
      have : (b.data.toList[k] == c) = false := by simpa using hc
      rw [this]
      exact idx_at b c n (k + 1) (by omega)
theorem idx_eq (b : ByteArray) (c : UInt8) : firstIdx b c = idx c b.data.toList 0 := by
  have h := idx_at b c b.size 0 (by omega)
  rw [List.drop_zero] at h
  rw [← h, ← List.range_eq_range']
  rfl
def ibName : String := match Extern.BytealgIndexByte.rows with
  | [_, r] => r.1
  | _ => default
def neName : String := match Extern.AbiNoEscape.rows with
  | r :: _ => r.1
  | _ => default
def ovName : String := match Extern.SlicesOverlaps.typedRows with
  | [r] => r.1
  | _ => default
noncomputable def evOver (P : Program) (s : St) (t : TypeId) (a b : Option Addr) (la lb : Nat) : Option Value :=
  match P.underlying t with
  | some (.slice elem) => match tsz P elem with
    | some size => match a, b with
      | some a, some b =>
        if la = 0 ∨ lb = 0 ∨ size = 0 then some (.bool false)
        else if a.block = b.block then some (.bool (decide (a.off < b.off + lb * size) && decide (b.off < a.off + la * size)))
        else if (s.obj a.block).live = true ∧ (s.obj b.block).live = true ∧ (s.obj a.block).raw = true ∧ a.off < (s.obj a.block).len ∧ 0 < (s.obj b.block).len then some (.bool false)
        else none
      | none, _ => if la = 0 then some (.bool false) else none
      | some _, none => if lb = 0 then some (.bool false) else none
    | none => none
  | _ => none
theorem overlaps_eq (t r : TypeId) : ∃ (q : Question) (m : String), ∀ (a b : Option Addr) (la ca lb cb : Nat), Extern.SlicesOverlaps.overlaps #[t, t] #[r] #[.slice a la ca, .slice b lb cb] = (do
    let .slice elem ← underlying t | stuck m
    let size ← sizeOf elem
    match a, b with
    | some a, some b =>
      if la = 0 ∨ lb = 0 ∨ size = 0 then pure (Value.bool false)
      else if a.block != b.block && (← frozen a) && (← frozen b) then unsupported .addressObserved
      else do
        if a.block != b.block then do
          noView a; noView b
          if ← mayBeOne a b then return Value.bool ((← choose q) == 1)
        pure (Value.bool (a.block == b.block && a.off < b.off + lb * size && b.off < a.off + la * size))
    | _, _ => pure (Value.bool false) : Sem Value) := ⟨_, _, fun _ _ _ _ _ _ => rfl⟩
theorem evOver_run (hR : R B γ s w) {t r : TypeId} {x y v : Value} {a b : Option Addr} {la lb ca cb : Nat} (hx : x = .slice a la ca) (hy : y = .slice b lb cb) (he : evOver P s t a b la lb = some v) :
    (Extern.SlicesOverlaps.overlaps #[t, t] #[r] #[ren γ x, ren γ y]).run P w = .ok (ren γ v) w ∧ Wf s.n v := by
  subst hx hy
  unfold evOver at he
  split at he
  case h_2 => cases he
  rename_i elem hu
  split at he
  case h_2 => cases he
  rename_i size hsz
  obtain ⟨q, m, hq⟩ := overlaps_eq t r
  have hcore : ∀ (a' b' : Option Addr) (ca' cb' : Nat), (Extern.SlicesOverlaps.overlaps #[t, t] #[r] #[.slice a' la ca', .slice b' lb cb']).run P w = (match a', b' with
      | some a, some b => (do
        if la = 0 ∨ lb = 0 ∨ size = 0 then pure (Value.bool false)
        else if a.block != b.block && (← frozen a) && (← frozen b) then unsupported .addressObserved
        else do
          if a.block != b.block then do
            noView a; noView b
            if ← mayBeOne a b then return Value.bool ((← choose q) == 1)
          pure (Value.bool (a.block == b.block && a.off < b.off + lb * size && b.off < a.off + la * size)) : Sem Value)
      | _, _ => (pure (Value.bool false) : Sem Value)).run P w := by
    intro a' b' ca' cb'
    rw [hq, Sem.run_bind, run_underlying hu, Result.andThen_ok, Sem.run_bind, run_tsz hsz, Result.andThen_ok]
  have key : (la = 0 ∨ lb = 0) → ∀ (a' b' : Option Addr) (ca' cb' : Nat), (Extern.SlicesOverlaps.overlaps #[t, t] #[r] #[.slice a' la ca', .slice b' lb cb']).run P w = .ok (.bool false) w := by
    intro h0 a' b' ca' cb'
    have h1 : la = 0 ∨ lb = 0 ∨ size = 0 := by omega
    rw [hcore]
    cases a' <;> cases b' <;> first | rfl | (simp only [if_pos h1]; rfl)
  cases a with
  | none =>
    simp only at he
    split at he
    case isFalse => cases he
    rename_i h0
    injection he with he; subst he
    refine ⟨?_, trivial⟩
    cases b with
    | none => exact key (Or.inl h0) (tailA γ ca) (tailA γ cb) _ _
    | some b => exact key (Or.inl h0) (tailA γ ca) (some (γ.at b)) _ _
  | some a =>
    cases b with
    | none =>
      simp only at he
      split at he
      case isFalse => cases he
      rename_i h0
      injection he with he; subst he
      exact ⟨key (Or.inr h0) (some (γ.at a)) (tailA γ cb) _ _, trivial⟩
    | some b =>
      simp only at he
      split at he
      · rename_i h0
        injection he with he; subst he
        refine ⟨(hcore (some (γ.at a)) (some (γ.at b)) _ _).trans ?_, trivial⟩
        simp only [if_pos h0]; rfl
      · rename_i h0
        split at he
        · rename_i hab
          injection he with he; subst he
          refine ⟨(hcore (some (γ.at a)) (some (γ.at b)) _ _).trans ?_, trivial⟩
          have e1 : ((γ.at a).block != (γ.at b).block) = false := by simp [Gh.at, hab]
          have e2 : ((γ.at a).block == (γ.at b).block) = true := by simp [Gh.at, hab]
          have e3 : decide ((γ.at a).off < (γ.at b).off + lb * size) = decide (a.off < b.off + lb * size) := by
            simp only [Gh.at, hab]; congr 1; apply propext; omega
          have e4 : decide ((γ.at b).off < (γ.at a).off + la * size) = decide (b.off < a.off + la * size) := by
            simp only [Gh.at, hab]; congr 1; apply propext; omega
          simp only [if_neg h0, e1, e2, e3, e4]
          simp [frozen, Sem.run, ren]
        · rename_i hab
          split at he
          · rename_i hc
            obtain ⟨hla, hlb, hraw, hoff, hlen⟩ := hc
            injection he with he; subst he
            refine ⟨?_, trivial⟩
            have hne : (γ.at a).block ≠ (γ.at b).block := fun e => hab (hR.inj _ _ hla hlb e)
            obtain ⟨cA, fA, qA, fzA, szA, _⟩ := hR.obj _ hla
            obtain ⟨cB, fB, qB, fzB, szB, _⟩ := hR.obj _ hlb
            have hfA : fA = (0, 0) := by
              rcases fzA with ⟨_, h⟩ | h
              · rw [hraw] at h; cases h
              · exact h
            subst hfA
            have hsa : w.shape? (γ.at a).block = some ((s.obj a.block).elem, cA.size) := by simp only [World.shape?, Gh.at, qA]
            have hsb : w.shape? (γ.at b).block = some ((s.obj b.block).elem, cB.size) := by simp only [World.shape?, Gh.at, qB]
            exact Lib.run_overlaps_apart w t r elem hu size (fun w => run_tsz hsz) (γ.at a) (γ.at b) la _ lb _ hne _ _ cA.size cB.size hsa hsb (by omega)
              (by simp [World.frozen?, Gh.at, qA]) (by simp [World.frozen?, Gh.at, qA])
          · cases he
noncomputable def evExt (P : Program) (s : St) (g : FuncId) (args : List Value) : OpR :=
  match P.funcs[g]?, args with
  | some fn, [.string b, .int .u8 c] =>
    if fn.body.isNone = true ∧ fn.name = ibName ∧ (Extern.findNext fn).isNone = true then .val (.int .i64 (idx c.toNat.toUInt8 b.data.toList 0)) s else .err
  | some fn, [.slice a la _, .slice b lb _] =>
    if fn.body.isNone = true ∧ fn.origin = ovName ∧ (fn.name == "runtime.NumGoroutine") = false ∧ (Extern.findNext fn).isNone = true ∧ (Extern.allGenericRows.lookup fn.name).isNone = true ∧ (Extern.allTypedRows.lookup fn.name).isNone = true ∧ (Extern.allRows.lookup fn.name).isNone = true then
      match fn.params.toList, fn.resultTypes.toList with
      | [t, t'], [_] => if t = t' then valP s (evOver P s t a b la lb) else .err
      | _, _ => .err
    else .err
  | some fn, [.pointer a] =>
    if fn.body.isNone = true ∧ fn.name = neName ∧ (Extern.findNext fn).isNone = true then .val (.pointer a) s else .err
  | _, _ => .err
theorem ib_find {fn : Func} (h : fn.name = ibName) : Extern.find fn = some Extern.BytealgIndexByte.indexByte := by
  have h1 : Extern.allGenericRows.lookup ibName = none := by kernel_rfl
  have h2 : Extern.allTypedRows.lookup ibName = none := by kernel_rfl
  have h3 : Extern.allRows.lookup ibName = some Extern.BytealgIndexByte.indexByte := by kernel_rfl
  unfold Extern.find
  simp only [h, h1, h2, h3]
  rfl
theorem ne_find {fn : Func} (h : fn.name = neName) : Extern.find fn = some Extern.AbiNoEscape.same := by
  have h1 : Extern.allGenericRows.lookup neName = none := by kernel_rfl
  have h2 : Extern.allTypedRows.lookup neName = none := by kernel_rfl
  have h3 : Extern.allRows.lookup neName = some Extern.AbiNoEscape.same := by kernel_rfl
  unfold Extern.find
  simp only [h, h1, h2, h3]
  rfl
theorem ne_name : (neName == "runtime.NumGoroutine") = false := by kernel_rfl
theorem ib_name : (ibName == "runtime.NumGoroutine") = false := by kernel_rfl
theorem ov_find {fn : Func} (h : fn.origin = ovName) (h1 : (Extern.allGenericRows.lookup fn.name).isNone = true) (h2 : (Extern.allTypedRows.lookup fn.name).isNone = true) (h3 : (Extern.allRows.lookup fn.name).isNone = true) :
    Extern.find fn = some (Extern.SlicesOverlaps.overlaps fn.params fn.resultTypes) := by
  have k1 : Extern.allGenericRows.lookup ovName = none := by kernel_rfl
  have k2 : Extern.allTypedRows.lookup ovName = some Extern.SlicesOverlaps.overlaps := by kernel_rfl
  rw [Option.isNone_iff_eq_none] at h1 h2 h3
  unfold Extern.find
  simp only [h, h1, h2, h3, k1, k2]
  rfl
theorem evExt_sim (hR : R B γ s w) {g : FuncId} {args : List Value} (ha : ∀ v ∈ args, Wf s.n v) : OpSim P B γ s w (callFunc g (args.map (ren γ)).toArray) (evExt P s g args) := by
  unfold evExt
  split
  · rename_i fn b c hf
    split
    · rename_i hc
      obtain ⟨hb, hn, hx⟩ := hc
      refine ⟨γ, w, ?_, Ext.refl _ _, hR, trivial, Fr.refl _ _, Nat.le_refl _⟩
      rw [run_callFunc_extern hf (by rw [hn]; exact ib_name) hb (by simpa using hx) (ib_find hn)]
      have := run_indexByte_string (P := P) b c w
      simp only [List.map_cons, List.map_nil, ren]
      rw [this, idx_eq]
      rfl
    · trivial
  · rename_i fn a la ca b lb cb hf
    split
    · rename_i hc
      obtain ⟨hb, ho, hng, hx, h1, h2, h3⟩ := hc
      split
      · rename_i t t' r hp hr
        split
        · rename_i htt
          subst htt
          have hp' : fn.params = #[t, t] := by apply Array.ext'; simpa using hp
          have hr' : fn.resultTypes = #[r] := by apply Array.ext'; simpa using hr
          have hrun := run_callFunc_extern (P := P) (w := w) (args := ([.slice a la ca, .slice b lb cb].map (ren γ)).toArray) hf hng hb (by simpa using hx) (ov_find ho h1 h2 h3)
          rw [hp', hr'] at hrun
          cases he : evOver P s t a b la lb with
          | none => trivial
          | some v =>
            obtain ⟨q1, q2⟩ := evOver_run (P := P) (r := r) hR (x := .slice a la ca) (y := .slice b lb cb) rfl rfl he
            refine ⟨γ, w, ?_, Ext.refl _ _, hR, q2, Fr.refl _ _, Nat.le_refl _⟩
            rw [hrun]
            show ((Extern.SlicesOverlaps.overlaps #[t, t] #[r] #[ren γ (.slice a la ca), ren γ (.slice b lb cb)]).run P w).andThen _ = _
            rw [q1]; rfl
        · trivial
      · trivial
    · trivial
  · rename_i fn a hf
    split
    · rename_i hc
      obtain ⟨hb, hn, hx⟩ := hc
      have hw := ha (.pointer a) (by simp)
      refine ⟨γ, w, ?_, Ext.refl _ _, hR, hw, Fr.refl _ _, Nat.le_refl _⟩
      rw [run_callFunc_extern hf (by rw [hn]; exact ne_name) hb (by simpa using hx) (ne_find hn)]
      rfl
    · trivial
  · trivial
noncomputable def evEnter (P : Program) (g : FuncId) (args : List Value) : OpR := if okFunc P g = true then .call g args else .err
noncomputable def evCallM (P : Program) (s : St) (recv : Value) (name : String) (args : List Value) : OpR :=
  match recv with
  | .iface t v => match evMeth P s t v name with
    | some (f, r) => evEnter P f (r :: args)
    | none => .err
  | _ => .err
noncomputable def evCallV (P : Program) (s : St) (f : Value) (args : List Value) : OpR :=
  match f with
  | .func (.func g) first captured => if okFunc P g = true then .call g (first.toList ++ args ++ captured.toList) else evExt P s g (first.toList ++ args ++ captured.toList)
  | .func (.method name) first captured =>
    match first.toList ++ args with
    | recv :: rest => evCallM P s recv name rest
    | [] => .err
  | _ => .err
theorem evCallM_sim (hR : R B γ s w) {recv : Value} {name : String} {args : List Value} (hr : Wf s.n recv) (ha : ∀ v ∈ args, Wf s.n v) :
    OpSim P B γ s w (callMethod (ren γ recv) name (args.map (ren γ)).toArray) (evCallM P s recv name args) := by
  unfold evCallM
  split
  · rename_i t v
    split
    · rename_i f r hm
      unfold evEnter
      split
      · rename_i hok
        have hv : Wf s.n v := hr
        obtain ⟨h1, h2⟩ := evMeth_run (P := P) (n := P.types.size + Made.depth - 1) hR hv hm
        have hd : P.types.size + Made.depth - 1 + 1 = P.types.size + Made.depth := by
          have : 0 < Made.depth := by decide
          omega
        rw [hd] at h1
        refine ⟨?_, ?_⟩
        · have hc := callFunc_run (P := P) (w := w) (args := (r :: args).map (ren γ)) hok
          simp only [callMethod, ren, Sem.run_bind, run_program, Result.andThen_ok, h1]
          rw [← hc]
          congr 2
          apply Array.ext'
          simp
        · intro x hx
          rcases List.mem_cons.1 hx with rfl | hx
          · exact h2
          · exact ha x hx
      · trivial
    · trivial
  · trivial
theorem evCallV_sim (hR : R B γ s w) {f : Value} {args : List Value} (hf : Wf s.n f) (ha : ∀ v ∈ args, Wf s.n v) :
    OpSim P B γ s w (do let d ← Deferred.ofValue (ren γ f) (args.map (ren γ)).toArray; invoke d.target d.args) (evCallV P s f args) := by
  unfold evCallV
  split
  · rename_i g first captured
    obtain ⟨h1, h2⟩ := (Wf_func _ _ _ _).1 hf
    split
    · rename_i hok
      refine ⟨?_, ?_⟩
      · have hc := callFunc_run (P := P) (w := w) (args := (first.toList ++ args ++ captured.toList).map (ren γ)) hok
        rw [ren_func]
        simp only [Deferred.ofValue, Sem.run_bind, Sem.run_pure, Result.andThen_ok, invoke]
        rw [← hc]
        congr 2
        apply Array.ext'
        simp
      · intro x hx
        rcases List.mem_append.1 hx with hx | hx
        · rcases List.mem_append.1 hx with hx | hx
          · exact h1 x (by simpa using hx)
          · exact ha x hx
        · exact h2 x (by simpa using hx)
    · have hc := evExt_sim (P := P) hR (g := g) (args := first.toList ++ args ++ captured.toList) (by
        intro x hx
        rcases List.mem_append.1 hx with hx | hx
        · rcases List.mem_append.1 hx with hx | hx
          · exact h1 x (by simpa using hx)
          · exact ha x hx
        · exact h2 x (by simpa using hx))
      have he : (do let d ← Deferred.ofValue (ren γ (.func (.func g) first captured)) (args.map (ren γ)).toArray; invoke d.target d.args : Sem Next) = callFunc g ((first.toList ++ args ++ captured.toList).map (ren γ)).toArray := by
        rw [ren_func]
        simp only [Deferred.ofValue, pure_bind, invoke]
        congr 1
        apply Array.ext'
        simp
      rw [he]
      exact hc
  · rename_i name first captured
    obtain ⟨h1, h2⟩ := (Wf_func _ _ _ _).1 hf
    split
    · rename_i recv rest hl
      have hw : ∀ v ∈ recv :: rest, Wf s.n v := by
        intro x hx
        rw [← hl] at hx
        rcases List.mem_append.1 hx with hx | hx
        · exact h1 x (by simpa using hx)
        · exact ha x hx
      have hm := evCallM_sim (P := P) hR (name := name) (hw recv (List.mem_cons_self ..)) (fun v hv => hw v (List.mem_cons_of_mem _ hv))
      have hargs : first.map (ren γ) ++ (args.map (ren γ)).toArray = ((recv :: rest).map (ren γ)).toArray := by
        rw [← hl]; apply Array.ext'; simp
      have he : (do let d ← Deferred.ofValue (ren γ (.func (.method name) first captured)) (args.map (ren γ)).toArray; invoke d.target d.args : Sem Next) = callMethod (ren γ recv) name (rest.map (ren γ)).toArray := by
        rw [ren_func]
        simp only [Deferred.ofValue, hargs, pure_bind]
        simp [invoke]
        rw [List.take_of_length_le (by simp)]
      rw [he]
      exact hm
    · trivial
  · trivial
end
end Go.Ev
