/-
  A verified evaluator of the model's code, part U (own work): no condition; the theorem 'sound' of its last part is what a claim uses.
-/
import Derived.Test.YtedjimkpmmacoaaGreatDoorEvT
import Derived.IntWalk
namespace Go.Ev
set_option linter.all false
set_option linter.unusedVariables false
set_option linter.unusedSimpArgs false
set_option linter.unusedSectionVars false
set_option linter.unnecessarySimpa false
open Go Go.RowKit
variable [Tok] [Sym]
/-! the commonest operations, by a shorter way -/
section
def skipR : Option St → OpR
  | some s' => .skip s'
  | none => .err
noncomputable def forceN {β : Type} (n : Nat) (k : Nat → β) : β := Nat.rec (motive := fun _ => β) (k 0) (fun p _ => k (Nat.succ p)) n
theorem forceN_eq {β : Type} (n : Nat) (k : Nat → β) : forceN n k = k n := by cases n <;> rfl
/-- Half of what a kind holds. -/
noncomputable def half (k : IntKind) : Nat := IntKind.rec (motive := fun _ => Nat) 128 32768 2147483648 9223372036854775808 128 32768 2147483648 9223372036854775808 k
noncomputable def bitsF (k : IntKind) : Nat := IntKind.rec (motive := fun _ => Nat) 8 16 32 64 8 16 32 64 k
theorem bitsF_eq (k : IntKind) : bitsF k = k.bits := by cases k <;> rfl
theorem wrap_half (k : IntKind) (n : Nat) (h : n < half k) : k.wrap (Int.ofNat n) = Int.ofNat n := by
  have h' : ((Int.ofNat n : Int)) = (n : Int) := rfl
  rw [h']
  cases k
  · exact IntWalk.i8_in _ ⟨by omega, by have : n < 128 := h; omega⟩
  · exact IntWalk.i16_in _ ⟨by omega, by have : n < 32768 := h; omega⟩
  · exact IntWalk.i32_in _ ⟨by omega, by have : n < 2147483648 := h; omega⟩
  · exact IntWalk.i64_in _ ⟨by omega, by have : n < 9223372036854775808 := h; omega⟩
  · exact IntWalk.u8_in _ ⟨by omega, by have : n < 128 := h; omega⟩
  · exact IntWalk.u16_in _ ⟨by omega, by have : n < 32768 := h; omega⟩
  · exact IntWalk.u32_in _ ⟨by omega, by have : n < 2147483648 := h; omega⟩
  · exact IntWalk.u64_in _ ⟨by omega, by have : n < 9223372036854775808 := h; omega⟩
noncomputable def ordK (k : IntKind) : Nat := IntKind.rec (motive := fun _ => Nat) 0 1 2 3 4 5 6 7 k
noncomputable def sameK (k k' : IntKind) : Bool := Nat.beq (ordK k) (ordK k')
theorem sameK_spec {k k' : IntKind} (h : sameK k k' = true) : k = k' := by
  have := Nat.eq_of_beq_eq_true h
  cases k <;> cases k' <;> first | rfl | (exact absurd this (by unfold ordK; decide))
noncomputable def inHalf (k : IntKind) (s : St) (slow : OpR) (r : Nat) : OpR := Bool.rec (motive := fun _ => OpR) slow (.val (.int k (Int.ofNat r)) s) (Nat.blt r (half k))
noncomputable def whenB (b : Bool) (x slow : OpR) : OpR := Bool.rec (motive := fun _ => OpR) slow x b
noncomputable def evNat (op : BinOp) (k k' : IntKind) (n m : Nat) (s : St) (slow : OpR) : OpR :=
  BinOp.rec (motive := fun _ => OpR)
    (whenB (sameK k k') (forceN (Nat.add n m) (inHalf k s slow)) slow)
    (whenB (sameK k k') (whenB (Nat.ble m n) (forceN (Nat.sub n m) (inHalf k s slow)) slow) slow)
    (whenB (sameK k k') (forceN (Nat.mul n m) (inHalf k s slow)) slow)
    (whenB (sameK k k') (whenB (Nat.blt 0 m) (forceN (Nat.div n m) (inHalf k s slow)) slow) slow)
    (whenB (sameK k k') (whenB (Nat.blt 0 m) (forceN (Nat.mod n m) fun r => .val (.int k (Int.ofNat r)) s) slow) slow)
    (whenB (sameK k k') (whenB (Nat.blt n (half k)) (whenB (Nat.blt m (half k)) (forceN (Nat.land n m) (inHalf k s slow)) slow) slow) slow)
    (whenB (sameK k k') (whenB (Nat.blt n (half k)) (whenB (Nat.blt m (half k)) (forceN (Nat.lor n m) (inHalf k s slow)) slow) slow) slow)
    slow
    (whenB (Nat.ble m (bitsF k)) (forceN (Nat.mul n (Nat.pow 2 m)) (inHalf k s slow)) slow)
    (whenB (Nat.ble m (bitsF k)) (forceN (Nat.div n (Nat.pow 2 m)) fun r => .val (.int k (Int.ofNat r)) s) slow)
    slow
    (whenB (sameK k k') (.val (.bool (Nat.beq n m)) s) slow)
    (whenB (sameK k k') (.val (.bool (Bool.not (Nat.beq n m))) s) slow)
    (whenB (sameK k k') (.val (.bool (Nat.blt n m)) s) slow)
    (whenB (sameK k k') (.val (.bool (Nat.ble n m)) s) slow)
    (whenB (sameK k k') (.val (.bool (Nat.blt m n)) s) slow)
    (whenB (sameK k k') (.val (.bool (Nat.ble m n)) s) slow)
    op
theorem whenB_eq {b : Bool} {x slow : OpR} (h : b = true → x = slow) : whenB b x slow = slow := by
  cases b with
  | false => rfl
  | true => exact h rfl
theorem inHalf_eq {k : IntKind} {s : St} {slow : OpR} {r : Nat} (h : r < half k → OpR.val (.int k (Int.ofNat r)) s = slow) : inHalf k s slow r = slow := by
  unfold inHalf
  cases hb : Nat.blt r (half k) with
  | false => rfl
  | true => exact h (Nat.le_of_ble_eq_true hb)
theorem half_lt (k : IntKind) : half k < 2 ^ k.bits := by cases k <;> decide
theorem ofInt_nat (b n : Nat) : BitVec.ofInt b (Int.ofNat n) = BitVec.ofNat b n := BitVec.ofInt_natCast b n
theorem beq_i (n m : Nat) : ((Int.ofNat n : Int) == Int.ofNat m) = Nat.beq n m := by
  by_cases h : n = m
  · subst h; rw [Nat.beq_refl]; simp
  · have h1 : Nat.beq n m = false := by
      cases hb : Nat.beq n m with
      | true => exact (h (Nat.eq_of_beq_eq_true hb)).elim
      | false => rfl
    rw [h1]
    have : (Int.ofNat n : Int) ≠ Int.ofNat m := fun e => h (Int.ofNat.inj e)
    simpa using this
theorem lt_i (n m : Nat) : decide ((Int.ofNat n : Int) < Int.ofNat m) = Nat.blt n m := by
  rw [Bool.eq_iff_iff]
  rw [decide_eq_true_eq]
  constructor
  · intro h; exact Nat.ble_eq_true_of_le (Int.ofNat_lt.1 h)
  · intro h; exact Int.ofNat_lt.2 (Nat.le_of_ble_eq_true h)
theorem le_i (n m : Nat) : decide ((Int.ofNat n : Int) ≤ Int.ofNat m) = Nat.ble n m := by
  rw [Bool.eq_iff_iff]
  rw [decide_eq_true_eq]
  constructor
  · intro h; exact Nat.ble_eq_true_of_le (Int.ofNat_le.1 h)
  · intro h; exact Int.ofNat_le.2 (Nat.le_of_ble_eq_true h)
theorem evNat_eq (P : Program) (op : BinOp) (t : TypeId) (cst : Bool) (k k' : IntKind) (n m : Nat) (s : St) :
    evNat op k k' n m s (valP s (evBin P op t cst (.int k (.ofNat n)) (.int k' (.ofNat m)))) = valP s (evBin P op t cst (.int k (.ofNat n)) (.int k' (.ofNat m))) := by
  have same : ∀ (o : BinOp) (v : Value), isShift o = false → evInt o k (.ofNat n) (.ofNat m) = some v → OpR.val v s = valP s (evBin P o t cst (.int k (.ofNat n)) (.int k (.ofNat m))) := by
    intro o v h1 h2
    simp only [evBin, h1, Bool.false_eq_true, if_false, if_true, h2]; rfl
  have shift : ∀ (o : BinOp) (v : Value), isShift o = true → evShift o k (.ofNat n) (.ofNat m) = some v → OpR.val v s = valP s (evBin P o t cst (.int k (.ofNat n)) (.int k' (.ofNat m))) := by
    intro o v h1 h2
    simp only [evBin, h1, if_true, h2]; rfl
  have hneg : ¬ (Int.ofNat m : Int) < 0 := by have := Int.natCast_nonneg m; exact Int.not_lt.2 this
  cases op
  case add =>
    refine whenB_eq fun h => ?_
    obtain rfl := sameK_spec h
    rw [forceN_eq]
    refine inHalf_eq fun hr => same _ _ rfl ?_
    simp only [evInt]
    rw [show (Int.ofNat n + Int.ofNat m : Int) = Int.ofNat (Nat.add n m) from rfl, wrap_half _ _ hr]
  case sub =>
    refine whenB_eq fun h => ?_
    obtain rfl := sameK_spec h
    refine whenB_eq fun hle => ?_
    rw [forceN_eq]
    have hle := Nat.le_of_ble_eq_true hle
    refine inHalf_eq fun hr => same _ _ rfl ?_
    simp only [evInt]
    rw [show (Int.ofNat n - Int.ofNat m : Int) = Int.ofNat (Nat.sub n m) from (Int.ofNat_sub hle).symm, wrap_half _ _ hr]
  case mul =>
    refine whenB_eq fun h => ?_
    obtain rfl := sameK_spec h
    rw [forceN_eq]
    refine inHalf_eq fun hr => same _ _ rfl ?_
    simp only [evInt]
    rw [show (Int.ofNat n * Int.ofNat m : Int) = Int.ofNat (Nat.mul n m) from rfl, wrap_half _ _ hr]
  case quo =>
    refine whenB_eq fun h => ?_
    obtain rfl := sameK_spec h
    refine whenB_eq fun hle => ?_
    rw [forceN_eq]
    have hle : 0 < m := Nat.le_of_ble_eq_true hle
    refine inHalf_eq fun hr => same _ _ rfl ?_
    have h0 : ¬ (Int.ofNat m : Int) = 0 := fun e => Nat.lt_irrefl 0 (Int.ofNat.inj e ▸ hle)
    simp only [evInt, if_neg h0]
    rw [show Int.tdiv (Int.ofNat n) (Int.ofNat m) = Int.ofNat (Nat.div n m) from rfl, wrap_half _ _ hr]
  case rem =>
    refine whenB_eq fun h => ?_
    obtain rfl := sameK_spec h
    refine whenB_eq fun hle => ?_
    rw [forceN_eq]
    have hle : 0 < m := Nat.le_of_ble_eq_true hle
    refine same _ _ rfl ?_
    have h0 : ¬ (Int.ofNat m : Int) = 0 := fun e => Nat.lt_irrefl 0 (Int.ofNat.inj e ▸ hle)
    simp only [evInt, if_neg h0]
    rfl
  case and =>
    refine whenB_eq fun h => ?_
    obtain rfl := sameK_spec h
    refine whenB_eq fun h1 => ?_
    refine whenB_eq fun h2 => ?_
    rw [forceN_eq]
    have h1 : n < half k := Nat.le_of_ble_eq_true h1
    have h2 : m < half k := Nat.le_of_ble_eq_true h2
    have hb := half_lt k
    refine inHalf_eq fun hr => same _ _ rfl ?_
    simp only [evInt, ofInt_nat, BitVec.toNat_and, BitVec.toNat_ofNat]
    rw [Nat.mod_eq_of_lt (by omega), Nat.mod_eq_of_lt (by omega)]
    exact congrArg (fun x => some (Value.int k x)) (wrap_half _ _ hr)
  case or =>
    refine whenB_eq fun h => ?_
    obtain rfl := sameK_spec h
    refine whenB_eq fun h1 => ?_
    refine whenB_eq fun h2 => ?_
    rw [forceN_eq]
    have h1 : n < half k := Nat.le_of_ble_eq_true h1
    have h2 : m < half k := Nat.le_of_ble_eq_true h2
    have hb := half_lt k
    refine inHalf_eq fun hr => same _ _ rfl ?_
    simp only [evInt, ofInt_nat, BitVec.toNat_or, BitVec.toNat_ofNat]
    rw [Nat.mod_eq_of_lt (by omega), Nat.mod_eq_of_lt (by omega)]
    exact congrArg (fun x => some (Value.int k x)) (wrap_half _ _ hr)
  case xor => rfl
  case andNot => rfl
  case shl =>
    refine whenB_eq fun h => ?_
    have h := Nat.le_of_ble_eq_true h
    rw [bitsF_eq] at h
    rw [forceN_eq]
    refine inHalf_eq fun hr => shift _ _ rfl ?_
    simp only [evShift, if_neg hneg]
    rw [show min (Int.ofNat m).toNat k.bits = m from Nat.min_eq_left h]
    have : (Int.ofNat n * 2 ^ m : Int) = Int.ofNat (Nat.mul n (Nat.pow 2 m)) := by
      show (n : Int) * 2 ^ m = ((n * 2 ^ m : Nat) : Int)
      push_cast; rfl
    rw [this, wrap_half _ _ hr]
  case shr =>
    refine whenB_eq fun h => ?_
    have h := Nat.le_of_ble_eq_true h
    rw [bitsF_eq] at h
    rw [forceN_eq]
    refine shift _ _ rfl ?_
    simp only [evShift, if_neg hneg]
    rw [show min (Int.ofNat m).toNat k.bits = m from Nat.min_eq_left h]
    have : Int.fdiv (Int.ofNat n) (2 ^ m : Int) = Int.ofNat (Nat.div n (Nat.pow 2 m)) := by
      have e : (2 ^ m : Int) = ((2 ^ m : Nat) : Int) := by push_cast; rfl
      rw [e, Int.fdiv_eq_ediv_of_nonneg _ (Int.natCast_nonneg _)]
      rfl
    rw [this]
  case eql =>
    refine whenB_eq fun h => ?_
    obtain rfl := sameK_spec h
    exact same _ _ rfl (by simp only [evInt, beq_i])
  case neq =>
    refine whenB_eq fun h => ?_
    obtain rfl := sameK_spec h
    exact same _ _ rfl (by simp only [evInt, bne, beq_i])
  case lss =>
    refine whenB_eq fun h => ?_
    obtain rfl := sameK_spec h
    exact same _ _ rfl (by simp only [evInt, lt_i])
  case leq =>
    refine whenB_eq fun h => ?_
    obtain rfl := sameK_spec h
    exact same _ _ rfl (by simp only [evInt, le_i])
  case gtr =>
    refine whenB_eq fun h => ?_
    obtain rfl := sameK_spec h
    exact same _ _ rfl (by simp only [evInt, gt_iff_lt, lt_i])
  case geq =>
    refine whenB_eq fun h => ?_
    obtain rfl := sameK_spec h
    exact same _ _ rfl (by simp only [evInt, ge_iff_le, le_i])
noncomputable def binV [Sym] (P : Program) (op : BinOp) (t : TypeId) (cst : Bool) (s : St) (x y : Value) : OpR :=
  match x, y with
  | .int k (.ofNat n), .int k' (.ofNat m) => evNat op k k' n m s (valP s (evBin P op t cst (.int k (.ofNat n)) (.int k' (.ofNat m))))
  | x, y => cond (isTk x || isTk y) (valP s (Sym.bin op x y)) (valP s (evBin P op t cst x y))
theorem binV_eq [Sym] (P : Program) (op : BinOp) (t : TypeId) (cst : Bool) (s : St) (x y : Value) :
    binV P op t cst s x y = cond (isTk x || isTk y) (valP s (Sym.bin op x y)) (valP s (evBin P op t cst x y)) := by
  unfold binV
  split
  · exact evNat_eq P op t cst _ _ _ _ s
  · rfl
/-- A store, all that the object has brought to hand. -/
noncomputable def stF (s : St) (a : Addr) (vs : List Value) : OpR :=
  St.rec (motive := fun _ => OpR) (fun n hp mp =>
    AO.rec (motive := fun _ => OpR) (fun elem sz live opn len cells raw =>
      Bool.rec (motive := fun _ => OpR) .err (Bool.rec (motive := fun _ => OpR) .err (Bool.rec (motive := fun _ => OpR) .err
        (putK vs a.off cells fun c => Tr.setK deadO ⟨elem, sz, live, opn, len, c, raw⟩ (a.block + 1) a.block hp fun hp' => .skip ⟨n, hp', mp⟩)
        (vs.all (·.oneCell'))) (Nat.ble (Nat.add a.off vs.length) len)) live) (Tr.get deadO hp a.block)) s
theorem stF_eq (s : St) (a : Addr) (vs : List Value) : stF s a vs = skipR (stL s a vs) := by
  obtain ⟨n, hp, mp⟩ := s
  unfold stL St.obj
  unfold stF
  simp only
  generalize hq : Tr.get deadO hp a.block = o
  obtain ⟨elem, sz, live, opn, len, cells, raw⟩ := o
  simp only
  cases live with
  | false => rw [if_neg (by simp)]; rfl
  | true =>
    simp only
    cases hb : Nat.ble (Nat.add a.off vs.length) len with
    | false =>
      rw [if_neg]
      · rfl
      · rintro ⟨_, h, _⟩
        have : Nat.ble (Nat.add a.off vs.length) len = true := Nat.ble_eq_true_of_le h
        rw [this] at hb; cases hb
    | true =>
      simp only
      cases hv : vs.all (·.oneCell') with
      | false => rw [if_neg (by simp)]; rfl
      | true =>
        rw [if_pos (by simp; exact Nat.le_of_ble_eq_true hb)]
        show putK vs a.off cells _ = _
        rw [putK_eq, Tr.setK_eq]
        unfold St.setO
        rfl
noncomputable def storeV (P : Program) (t : TypeId) (s : St) (v : Value) : Value → OpR
  | .pointer (some a) => match tsz P t with
    | some n => Bool.rec (motive := fun _ => OpR) .err (stF s a v.cells.toList) (Nat.beq v.cells.size n)
    | none => .err
  | _ => .err
theorem storeV_eq (P : Program) (t : TypeId) (s : St) (x v : Value) : storeV P t s v x = skipR (evStore P s t x v) := by
  unfold storeV evStore
  split
  · rename_i a
    cases tsz P t with
    | none => rfl
    | some n =>
      simp only
      by_cases h : v.cells.size = n
      · rw [if_pos h, ← stF_eq, h, Nat.beq_refl]
      · rw [if_neg h]
        cases hb : Nat.beq v.cells.size n with
        | true => exact (h (Nat.eq_of_beq_eq_true hb)).elim
        | false => rfl
  · rename_i h
    split
    · exact (h _ rfl).elim
    · rfl
/-- A load of one cell. -/
noncomputable def ld1 (s : St) (a : Addr) : OpR :=
  AO.rec (motive := fun _ => OpR) (fun _ _ live _ len cells _ => Bool.rec (motive := fun _ => OpR) .err (Bool.rec (motive := fun _ => OpR) .err (.val (Tr.get undef cells a.off) s) (Nat.blt a.off len)) live) (Tr.get deadO s.hp a.block)
noncomputable def loadV (P : Program) (t : TypeId) (s : St) (x : Value) : OpR :=
  match x with
  | .pointer (some a) => Option.rec (motive := fun _ => OpR) .err (fun b => Bool.rec (motive := fun _ => OpR) (ld1 s a) (valP s (evLoad P s t (.pointer (some a)))) b) (tag P t)
  | x => valP s (evLoad P s t x)
theorem loadV_eq (P : Program) (t : TypeId) (s : St) (x : Value) : loadV P t s x = valP s (evLoad P s t x) := by
  unfold loadV
  split
  · rename_i a
    cases ht : tag P t with
    | none => simp only [evLoad, ht]; rfl
    | some b =>
      cases b with
      | true => rfl
      | false =>
        show ld1 s a = _
        simp only [evLoad, ht]
        unfold ld1 ldL St.obj
        generalize Tr.get deadO s.hp a.block = o
        obtain ⟨elem, sz, live, opn, len, cells, raw⟩ := o
        simp only
        cases live with
        | false => rw [if_neg (by simp)]; rfl
        | true =>
          show Bool.rec (motive := fun _ => OpR) _ _ (Nat.blt a.off len) = _
          cases hb : Nat.blt a.off len with
          | false =>
            rw [if_neg]
            · rfl
            · rintro ⟨_, h⟩
              have : Nat.blt a.off len = true := Nat.ble_eq_true_of_le h
              rw [this] at hb; cases hb
          | true =>
            rw [if_pos ⟨rfl, Nat.le_of_ble_eq_true hb⟩]
            rfl
  · rfl
noncomputable def idxAt (s : St) (b off n len : Nat) (j : Int) : OpR :=
  Int.rec (motive := fun _ => OpR) (fun m => Bool.rec (motive := fun _ => OpR) .err (forceN (Nat.add off (Nat.mul m n)) fun o => .val (.pointer (some ⟨b, o, none⟩)) s) (Nat.blt m len)) (fun _ => .err) j
theorem idxAt_eq (s : St) (a : Addr) (n len : Nat) (j : Int) :
    idxAt s a.block a.off n len j = valP s (if 0 ≤ j ∧ j < (len : Int) then some (.pointer (some ⟨a.block, a.off + j.toNat * n, none⟩)) else none) := by
  cases j with
  | ofNat m =>
    show Bool.rec (motive := fun _ => OpR) _ _ (Nat.blt m len) = _
    cases hb : Nat.blt m len with
    | false =>
      rw [if_neg]
      · rfl
      · rintro ⟨_, h⟩
        have : Nat.blt m len = true := Nat.ble_eq_true_of_le (Int.ofNat_lt.1 h)
        rw [this] at hb; cases hb
    | true =>
      rw [if_pos ⟨Int.natCast_nonneg m, Int.ofNat_lt.2 (Nat.le_of_ble_eq_true hb)⟩]
      show forceN _ _ = _
      rw [forceN_eq]
      rfl
  | negSucc m => rw [if_neg (fun h => absurd h.1 (by simp))]; rfl
noncomputable def indexV (P : Program) (t : TypeId) (s : St) (x i : Value) : OpR :=
  match x, i with
  | .slice (some a) len _, .int _ j => match P.underlying t with
    | some (.slice elem) => match tsz P elem with
      | some n => idxAt s a.block a.off n len j
      | none => .err
    | _ => .err
  | x, i => valP s (evIndexAddr P t x i)
theorem indexV_eq (P : Program) (t : TypeId) (s : St) (x i : Value) : indexV P t s x i = valP s (evIndexAddr P t x i) := by
  unfold indexV
  split
  · rename_i a len c k j
    split
    · rename_i elem hu
      simp only [evIndexAddr, hu]
      cases tsz P elem with
      | none => rfl
      | some n => simp only; exact idxAt_eq s a n len j
    · rename_i hn
      unfold evIndexAddr
      split
      · rename_i h1 h2 _; cases h2
      · rename_i elem a' len' c' k' j' h1 h2 h3
        exact (hn elem h1).elim
      · rfl
  · rfl
end
/-! the same evaluator, so laid out that little is copied while the kernel reckons -/
section
abbrev OpK := Program → (Operand → Value) → St → OpR
noncomputable def kMove (x : Operand) (_ : Program) (ρ : Operand → Value) (s : St) : OpR := .val (ρ x) s
def kPick1 (u v : Value) (s : St) : Value → OpR
  | .bool true => .val u s
  | .bool false => .val v s
  | _ => .err
noncomputable def kPick (c a b : Operand) (_ : Program) (ρ : Operand → Value) (s : St) : OpR := kPick1 (ρ a) (ρ b) s (ρ c)
noncomputable def kAlloc (e : TypeId) (P : Program) (_ : Operand → Value) (s : St) : OpR := valR (evAlloc P s e)
noncomputable def kBox (e : TypeId) (x : Operand) (_ : Program) (ρ : Operand → Value) (s : St) : OpR := valR (evBox s e (ρ x))
noncomputable def kBuild (t : TypeId) (ps : Array (Nat × Operand)) (P : Program) (ρ : Operand → Value) (s : St) : OpR := valP s (evBuild P t (ps.toList.map fun p => (p.1, ρ p.2)))
noncomputable def kBuildSlice (t : TypeId) (n : Nat) (ps : Array (Nat × Operand)) (P : Program) (ρ : Operand → Value) (s : St) : OpR := valR (evBuildSlice P s t n (ps.toList.map fun p => (p.1, ρ p.2)))
noncomputable def kLoad (t : TypeId) (a : Operand) (P : Program) (ρ : Operand → Value) (s : St) : OpR := loadV P t s (ρ a)
noncomputable def kStore (t : TypeId) (a x : Operand) (P : Program) (ρ : Operand → Value) (s : St) : OpR := storeV P t s (ρ x) (ρ a)
noncomputable def kNil (x : Operand) (_ : Program) (ρ : Operand → Value) (s : St) : OpR := valP s (evNil (ρ x))
noncomputable def kBin [Sym] (op : BinOp) (t : TypeId) (x y : Operand) (_ : TypeId) (P : Program) (ρ : Operand → Value) (s : St) : OpR :=
  binV P op t (isConst x || isConst y) s (ρ x) (ρ y)
noncomputable def kUn [Sym] (op : UnOp) (_ : TypeId) (x : Operand) (_ : Program) (ρ : Operand → Value) (s : St) : OpR := cond (isTk (ρ x)) (valP s (Sym.un op (ρ x))) (valP s (evUn op (ρ x)))
noncomputable def kConv [Sym] (a b : TypeId) (x : Operand) (P : Program) (ρ : Operand → Value) (s : St) : OpR := cond (isTk (ρ x)) (valP s (Sym.conv a b (ρ x))) (valR (evConv P s a b (ρ x)))
noncomputable def kIface (t : TypeId) (x : Operand) (P : Program) (ρ : Operand → Value) (s : St) : OpR := valP s (evIface P t (ρ x))
noncomputable def kFunc (fn : Fn) (f c : Array Operand) (_ : Program) (ρ : Operand → Value) (s : St) : OpR := .val (.func fn (f.map ρ) (c.map ρ)) s
noncomputable def kMakeMap (_ : TypeId) (r : Option Operand) (_ : Program) (_ : Operand → Value) (s : St) : OpR := Option.rec (motive := fun _ => OpR) (valR (evMakeMap s)) (fun _ => .err) r
noncomputable def kMakeSlice (t : TypeId) (l c : Operand) (P : Program) (ρ : Operand → Value) (s : St) : OpR := valR (evMakeSlice P s t (ρ l) (ρ c))
noncomputable def kSlice (t : TypeId) (x : Operand) (lo hi mx : Option Operand) (P : Program) (ρ : Operand → Value) (s : St) : OpR :=
  match mx with
  | none => valR (evSlice P s t (ρ x) (lo.map ρ) (hi.map ρ))
  | some m => match hi with
    | some h => valR (evSlice3 P s t (ρ x) (lo.map ρ) (ρ h) (ρ m))
    | none => .err
noncomputable def kFieldAddr (t : TypeId) (x : Operand) (f : Nat) (P : Program) (ρ : Operand → Value) (s : St) : OpR := valP s (evField P t (ρ x) f)
noncomputable def kField (t : TypeId) (x : Operand) (f : Nat) (P : Program) (ρ : Operand → Value) (s : St) : OpR := valP s (evFieldV P t (ρ x) f)
noncomputable def kIndexAddr (t : TypeId) (x i : Operand) (P : Program) (ρ : Operand → Value) (s : St) : OpR := indexV P t s (ρ x) (ρ i)
noncomputable def kIndex (t : TypeId) (x i : Operand) (P : Program) (ρ : Operand → Value) (s : St) : OpR := valP s (evIndex P t (ρ x) (ρ i))
noncomputable def kLookup (t : TypeId) (x k : Operand) (ok : Bool) (P : Program) (ρ : Operand → Value) (s : St) : OpR := valP s (evLookup P s t (ρ x) (ρ k) ok)
noncomputable def kMapUpdate (t : TypeId) (m k x : Operand) (P : Program) (ρ : Operand → Value) (s : St) : OpR := skipR (evMapUpdate P s t (ρ m) (ρ k) (ρ x))
noncomputable def kAssert (x : Operand) (_ : TypeId) (t : TypeId) (ok : Bool) (P : Program) (ρ : Operand → Value) (s : St) : OpR := valP s (evAssert P t ok (ρ x))
noncomputable def kExtract (x : Operand) (i : Nat) (_ : Program) (ρ : Operand → Value) (s : St) : OpR := valP s (evExtract (ρ x) i)
noncomputable def kCallB [Sym] (P : Program) (s : St) (ts : Array TypeId) (l : List Value) (b : Builtin) : OpR := evBuiltin P s b ts l
noncomputable def kCall [Sym] (c : Call) (P : Program) (ρ : Operand → Value) (s : St) : OpR :=
  Callee.rec (motive := fun _ => OpR) (fun f => evCallV P s (ρ f) (c.args.toList.map ρ)) (fun r name => evCallM P s (ρ r) name (c.args.toList.map ρ)) (fun b => kCallB P s c.argTypes (c.args.toList.map ρ) b) c.callee
noncomputable def e1 {α : Type} (_ : α) : OpK := fun _ _ _ => .err
noncomputable def e2 {α β : Type} (_ : α) (_ : β) : OpK := fun _ _ _ => .err
noncomputable def e3 {α β γ : Type} (_ : α) (_ : β) (_ : γ) : OpK := fun _ _ _ => .err
noncomputable def e4 {α β γ δ : Type} (_ : α) (_ : β) (_ : γ) (_ : δ) : OpK := fun _ _ _ => .err
noncomputable def evOpF [Sym] (op : Op) : OpK :=
  Op.rec (motive := fun _ => OpK) kMove kMove kPick kAlloc kBox kBuild kBuildSlice e4 kLoad kStore e1 e1 kNil kBin kUn kConv e2 kIface kFunc kMakeMap e2 kMakeSlice kSlice kFieldAddr kField kIndexAddr kIndex kLookup kMapUpdate e3 e4 e2 e2 e1 kAssert kExtract kCall e1 e1 e1 e2 e3 e2 op
theorem evOpF_eq [Sym] (P : Program) (op : Op) (ρ : Operand → Value) (s : St) : evOpF op P ρ s = evOp P op ρ s := by
  cases op with
  | pick c a b =>
    show kPick1 (ρ a) (ρ b) s (ρ c) = _
    simp only [evOp]
    cases ρ c with
    | bool b => cases b <;> rfl
    | _ => rfl
  | store t a x =>
    show storeV P t s (ρ x) (ρ a) = _
    rw [storeV_eq]
    simp only [evOp]
    cases evStore P s t (ρ a) (ρ x) <;> rfl
  | load t a => exact loadV_eq P t s (ρ a)
  | indexAddr t x i => exact indexV_eq P t s (ρ x) (ρ i)
  | mapUpdate t m k x =>
    show skipR (evMapUpdate P s t (ρ m) (ρ k) (ρ x)) = _
    simp only [evOp]
    cases evMapUpdate P s t (ρ m) (ρ k) (ρ x) <;> rfl
  | binOp op t x y ty =>
    show binV P op t _ s (ρ x) (ρ y) = _
    rw [binV_eq]
    simp only [evOp]
    cases (isTk (ρ x) || isTk (ρ y)) <;> rfl
  | unOp op t x =>
    show cond (isTk (ρ x)) _ _ = _
    simp only [evOp]
    cases (isTk (ρ x)) <;> rfl
  | convert a b x =>
    show cond (isTk (ρ x)) _ _ = _
    simp only [evOp]
    cases (isTk (ρ x)) <;> rfl
  | makeMap t r => cases r <;> rfl
  | slice t x lo hi mx =>
    cases mx with
    | none => rfl
    | some m => cases hi <;> rfl
  | call c =>
    show Callee.rec (motive := fun _ => OpR) _ _ _ c.callee = _
    simp only [evOp]
    cases c.callee <;> rfl
  | _ => rfl

noncomputable def putF (N : Nat) (v : Value) (t : Tm) (dst : Option Tmp) : Option Tm := Option.rec (motive := fun _ => Option Tm) (some t) (fun d => cond (Nat.blt d N) (some (Tr.set undef v d t)) none) dst
theorem putF_eq (N : Nat) (v : Value) (t : Tm) (dst : Option Tmp) : putF N v t dst = putT N dst v t := by
  cases dst with
  | none => rfl
  | some d =>
    show cond (Nat.blt d N) _ _ = (if d < N then _ else _)
    by_cases h : d < N
    · rw [if_pos h, show Nat.blt d N = true from by rw [Nat.blt_eq]; exact h]; rfl
    · rw [if_neg h]
      cases hb : Nat.blt d N with
      | true => exact (h (by rw [Nat.blt_eq] at hb; exact hb)).elim
      | false => rfl
noncomputable def pairF (s : St) (o : Option Tm) : Option (Tm × St) := Option.rec (motive := fun _ => Option (Tm × St)) none (fun t => some (t, s)) o
theorem pairF_eq (s : St) (o : Option Tm) : pairF s o = o.map fun t' => (t', s) := by cases o <;> rfl
noncomputable def resVal (N : Nat) (dst : Option Tmp) (t : Tm) (r : Res) : Option (Tm × St) := Res.rec (motive := fun _ => Option (Tm × St)) (fun _ _ _ => none) (fun v s' => pairF s' (putF N v t dst)) none r
noncomputable def opVal (N : Nat) (dst : Option Tmp) (t : Tm) (s : St) (self : Req → Res) (r : OpR) : Option (Tm × St) :=
  OpR.rec (motive := fun _ => Option (Tm × St)) (fun v s' => pairF s' (putF N v t dst)) (fun s' => pairF s' (putF N undef t dst)) (fun f args => resVal N dst t (self (.fn f args s))) none r
noncomputable def step1F [Sym] (P : Program) (self : Req → Res) (ops : Array Oper) (N : Nat) (o : Oper) (t : Tm) (s : St) : Option (Tm × St) :=
  cond (gv t ops o) (opVal N o.dst t s self (evOpF o.op P (ov t) s)) (pairF s (putF N undef t o.dst))
theorem step1F_eq [Sym] (P : Program) (self : Req → Res) (ops : Array Oper) (N : Nat) (o : Oper) (t : Tm) (s : St) : step1F P self ops N o t s = step1 P self ops N o t s := by
  unfold step1F step1
  cases gv t ops o with
  | false => simp [pairF_eq, putF_eq]
  | true =>
    rw [cond_true, if_pos rfl, evOpF_eq]
    cases evOp P o.op (ov t) s with
    | val v s' => simp only [opVal, pairF_eq, putF_eq]
    | skip s' => simp only [opVal, pairF_eq, putF_eq]
    | call f args =>
      simp only [opVal]
      cases self (.fn f args s) <;> simp only [resVal, pairF_eq, putF_eq]
    | err => rfl
noncomputable def thenF (k : Tm → St → Option (Tm × St)) (r : Option (Tm × St)) : Option (Tm × St) := Option.rec (motive := fun _ => Option (Tm × St)) none (fun p => Prod.rec (motive := fun _ => Option (Tm × St)) k p) r
noncomputable def evOpsF [Sym] (P : Program) (self : Req → Res) (ops : Array Oper) (N : Nat) (l : List Oper) : Tm → St → Option (Tm × St) :=
  List.rec (motive := fun _ => Tm → St → Option (Tm × St)) (fun t s => some (t, s)) (fun o _ ih t s => thenF ih (step1F P self ops N o t s)) l
theorem evOpsF_eq [Sym] (P : Program) (self : Req → Res) (ops : Array Oper) (N : Nat) : ∀ (l : List Oper) (t : Tm) (s : St), evOpsF P self ops N l t s = evOps P self ops N l t s
  | [], _, _ => rfl
  | o :: l, t, s => by
    show thenF (evOpsF P self ops N l) (step1F P self ops N o t s) = _
    rw [step1F_eq]
    simp only [evOps]
    cases step1 P self ops N o t s with
    | none => rfl
    | some p => exact evOpsF_eq P self ops N l p.1 p.2
noncomputable def consF (x : Tm × St) (r : Option (List (Tm × St))) : Option (List (Tm × St)) := Option.rec (motive := fun _ => Option (List (Tm × St))) none (fun l => some (x :: l)) r
noncomputable def thenT (x : Tm × St) (k : Tm → St → Option (List (Tm × St))) (r : Option (Tm × St)) : Option (List (Tm × St)) :=
  Option.rec (motive := fun _ => Option (List (Tm × St))) none (fun p => consF x (Prod.rec (motive := fun _ => Option (List (Tm × St))) k p)) r
noncomputable def trcF [Sym] (P : Program) (self : Req → Res) (ops : Array Oper) (N : Nat) (l : List Oper) : Tm → St → Option (List (Tm × St)) :=
  List.rec (motive := fun _ => Tm → St → Option (List (Tm × St))) (fun t s => some [(t, s)]) (fun o _ ih t s => thenT (t, s) ih (step1F P self ops N o t s)) l
theorem trcF_eq [Sym] (P : Program) (self : Req → Res) (ops : Array Oper) (N : Nat) : ∀ (l : List Oper) (t : Tm) (s : St), trcF P self ops N l t s = trc P self ops N l t s
  | [], _, _ => rfl
  | o :: l, t, s => by
    show thenT (t, s) (trcF P self ops N l) (step1F P self ops N o t s) = _
    rw [step1F_eq]
    simp only [trc]
    cases step1 P self ops N o t s with
    | none => rfl
    | some p =>
      show consF (t, s) (trcF P self ops N l p.1 p.2) = _
      rw [trcF_eq P self ops N l p.1 p.2]
      obtain ⟨t', s'⟩ := p
      simp only
      cases trc P self ops N l t' s' <;> rfl
noncomputable def rd2 (n : Nat) (v : Value) (r : OpR) : Bool := OpR.rec (motive := fun _ => Bool) (fun u _ => veq v u) (fun _ => false) (fun _ _ => false) false r
noncomputable def rd1 (n : Nat) (q : OpR) (r : OpR) : Bool := OpR.rec (motive := fun _ => Bool) (fun v s' => Nat.beq s'.n n && rd2 n v q) (fun _ => false) (fun _ _ => false) false r
noncomputable def rdOkF [Sym] (P : Program) (o : Oper) (t : Tm) (si sm : St) : Bool := rd1 sm.n (evOpF o.op P (ov t) si) (evOpF o.op P (ov t) sm)
theorem rdOkF_eq [Sym] (P : Program) (o : Oper) (t : Tm) (si sm : St) : rdOkF P o t si sm = rdOk P o t si sm := by
  unfold rdOkF rdOk
  rw [evOpF_eq, evOpF_eq]
  cases evOp P o.op (ov t) sm with
  | val v s' =>
    cases evOp P o.op (ov t) si with
    | val u s'' => rfl
    | _ => simp [rd1, rd2]
  | _ => cases evOp P o.op (ov t) si <;> rfl
/-- The places at which a reader may stand, beside its own. -/
noncomputable def spots (P : Program) (ops : Array Oper) (i : Nat) : List Nat := (List.range (ops.size + 1)).filter fun m => condB P ops i m && startB P ops m
noncomputable def isRd (P : Program) (o : Oper) : Bool := Kd.rec (motive := fun _ => Bool) false true false (kOf P o.op)
/-- The readers of a region, each with the places at which it may stand. -/
noncomputable def rdList (P : Program) (ops : Array Oper) : List (Nat × Oper × List Nat) :=
  (List.range ops.size).filterMap fun i => match ops[i]? with
    | some o => if isRd P o = true then some (i, o, spots P ops i) else none
    | none => none
noncomputable def allF {α : Type} (p : α → Bool) (l : List α) : Bool := List.rec (motive := fun _ => Bool) true (fun a _ ih => cond (p a) ih false) l
theorem allF_eq {α : Type} (p : α → Bool) : ∀ l : List α, allF p l = l.all p
  | [] => rfl
  | a :: l => by
    show cond (p a) (allF p l) false = _
    rw [allF_eq p l, List.all_cons]
    cases p a <;> rfl
noncomputable def rdAt [Sym] (P : Program) (ops : Array Oper) (L : List (Tm × St)) (r : Nat × Oper × List Nat) : Bool :=
  cond (gv (L.getD r.1 dummy).1 ops r.2.1) (rdOkF P r.2.1 (L.getD r.1 dummy).1 (L.getD r.1 dummy).2 (L.getD r.1 dummy).2 && allF (fun m => rdOkF P r.2.1 (L.getD r.1 dummy).1 (L.getD r.1 dummy).2 (L.getD m dummy).2) r.2.2) true
noncomputable def readersF [Sym] (P : Program) (ops : Array Oper) (L : List (Tm × St)) : Bool := allF (rdAt P ops L) (rdList P ops)
theorem readersF_le [Sym] (P : Program) (ops : Array Oper) (L : List (Tm × St)) (h : readersF P ops L = true) : readersOk P ops L = true := by
  unfold readersF at h
  rw [allF_eq, List.all_eq_true] at h
  unfold readersOk
  rw [List.all_eq_true]
  intro i hi
  cases ho : ops[i]? with
  | none => rfl
  | some o =>
    cases hk : kOf P o.op with
    | pure => simp only [hk]
    | write => simp only [hk]
    | read =>
      simp only [hk]
      cases hg : gv (L.getD i dummy).1 ops o with
      | false => rfl
      | true =>
        simp only [Bool.not_true, Bool.false_or]
        have hr : isRd P o = true := by unfold isRd; rw [hk]
        have hmem : (i, o, spots P ops i) ∈ rdList P ops := by
          unfold rdList
          rw [List.mem_filterMap]
          exact ⟨i, hi, by rw [ho]; simp only [if_pos hr]⟩
        have h1 := h _ hmem
        unfold rdAt at h1
        simp only at h1
        rw [hg, cond_true, allF_eq, Bool.and_eq_true, List.all_eq_true, rdOkF_eq] at h1
        rw [h1.1, Bool.true_and, List.all_eq_true]
        intro m hm
        cases hc : (condB P ops i m && startB P ops m) with
        | false => rfl
        | true =>
          simp only [Bool.not_true, Bool.false_or]
          have h2 := h1.2 m (by unfold spots; rw [List.mem_filter]; exact ⟨hm, hc⟩)
          rw [rdOkF_eq] at h2
          exact h2
theorem readersF_ge [Sym] (P : Program) (ops : Array Oper) (L : List (Tm × St)) (h : readersOk P ops L = true) : readersF P ops L = true := by
  unfold readersF
  rw [allF_eq, List.all_eq_true]
  intro r hr
  unfold rdList at hr
  rw [List.mem_filterMap] at hr
  obtain ⟨i, hi, hr⟩ := hr
  unfold readersOk at h
  rw [List.all_eq_true] at h
  have h1 := h i hi
  cases ho : ops[i]? with
  | none => rw [ho] at hr; cases hr
  | some o =>
    rw [ho] at hr h1
    simp only at hr h1
    by_cases hrd : isRd P o = true
    · rw [if_pos hrd] at hr
      injection hr with hr; subst hr
      unfold rdAt
      simp only
      have hk : kOf P o.op = .read := by
        unfold isRd at hrd
        cases hk : kOf P o.op <;> rw [hk] at hrd <;> first | rfl | cases hrd
      rw [hk] at h1
      simp only at h1
      cases hg : gv (L.getD i dummy).1 ops o with
      | false => rfl
      | true =>
        rw [hg] at h1
        simp only [Bool.not_true, Bool.false_or] at h1
        rw [Bool.and_eq_true, List.all_eq_true] at h1
        rw [cond_true, allF_eq, rdOkF_eq, h1.1, Bool.true_and, List.all_eq_true]
        intro m hm
        unfold spots at hm
        rw [List.mem_filter] at hm
        have h2 := h1.2 m hm.1
        rw [hm.2] at h2
        rw [rdOkF_eq]
        simpa using h2
    · rw [if_neg hrd] at hr; cases hr
theorem readersF_eq [Sym] (P : Program) (ops : Array Oper) (L : List (Tm × St)) : readersF P ops L = readersOk P ops L := by
  cases h1 : readersF P ops L with
  | true => exact (readersF_le P ops L h1).symm
  | false =>
    cases h2 : readersOk P ops L with
    | false => rfl
    | true => rw [readersF_ge P ops L h2] at h1; cases h1
noncomputable def drawEnd [Sym] (P : Program) (ops : Array Oper) (r : Option (List (Tm × St))) : Option (Tm × St) :=
  Option.rec (motive := fun _ => Option (Tm × St)) none (fun L => cond (readersF P ops L) (some (L.getD ops.size dummy)) none) r
noncomputable def evDrawF [Sym] (P : Program) (self : Req → Res) (ops : Array Oper) (N : Nat) (t : Tm) (s : St) : Option (Tm × St) :=
  cond (drawOk P ops) (drawEnd P ops (trcF P self ops N ops.toList t s)) none
theorem evDrawF_eq [Sym] (P : Program) (self : Req → Res) (ops : Array Oper) (N : Nat) (t : Tm) (s : St) : evDrawF P self ops N t s = evDraw P self ops N t s := by
  unfold evDrawF evDraw
  cases hd : drawOk P ops with
  | false => rfl
  | true =>
    rw [cond_true, trcF_eq, if_pos rfl]
    cases trc P self ops N ops.toList t s with
    | none => rfl
    | some L =>
      simp only [drawEnd, readersF_eq]
      cases readersOk P ops L <;> rfl

/-! code -/
noncomputable def evRegF [Sym] (P : Program) (self : Req → Res) (ops : Array Oper) (draw : Bool) (N : Nat) (t : Tm) (s : St) : Option (Tm × St) :=
  cond (okOps ops) (cond draw (evDrawF P self ops N t s) (evOpsF P self ops N ops.toList t s)) none
theorem evRegF_eq [Sym] (P : Program) (self : Req → Res) (ops : Array Oper) (draw : Bool) (N : Nat) (t : Tm) (s : St) : evRegF P self ops draw N t s = evReg P self ops draw N t s := by
  unfold evRegF evReg
  cases okOps ops with
  | false => rfl
  | true => cases draw <;> simp [evDrawF_eq, evOpsF_eq]
abbrev CoK := Program → (Req → Res) → Nat → Tm → St → Res
noncomputable def cSkip : CoK := fun _ _ _ t s => .fin .normal t s
noncomputable def finR (r : Option (Tm × St)) : Res := Option.rec (motive := fun _ => Res) .err (fun p => Prod.rec (motive := fun _ => Res) (fun t s => .fin .normal t s) p) r
noncomputable def cRegion [Sym] (_ : Nat) (ops : Array Oper) (draw : Bool) : CoK := fun P self N t s => finR (evRegF P self ops draw N t s)
noncomputable def seqE (b : Code) (self : Req → Res) (N : Nat) (e : EX) (t : Tm) (s : St) : Res := EX.rec (motive := fun _ => Res) (self (.code b N t s)) (fun i => .fin (.exit i) t s) (.fin .ret t s) e
noncomputable def seqR (b : Code) (self : Req → Res) (N : Nat) (r : Res) : Res := Res.rec (motive := fun _ => Res) (seqE b self N) (fun _ _ => .err) .err r
noncomputable def cSeq (a b : Code) (_ _ : CoK) : CoK := fun _ self N t s => seqR b self N (self (.code a N t s))
def condV (u v : Res) : Value → Res
  | .bool true => u
  | .bool false => v
  | _ => .err
noncomputable def cCond (x : Operand) (a b : Code) (_ _ : CoK) : CoK := fun _ self N t s => cond (okOpd x) (condV (self (.code a N t s)) (self (.code b N t s)) (ov t x)) .err
noncomputable def blkE (i : Nat) (e : EX) (t : Tm) (s : St) : Res := EX.rec (motive := fun _ => Res) (.fin .normal t s) (fun j => cond (Nat.beq j i) (.fin .normal t s) (.fin (.exit j) t s)) (.fin .ret t s) e
noncomputable def blkR (i : Nat) (r : Res) : Res := Res.rec (motive := fun _ => Res) (blkE i) (fun _ _ => .err) .err r
noncomputable def cBlock (i : Nat) (b : Code) (_ : CoK) : CoK := fun _ self N t s => blkR i (self (.code b N t s))
noncomputable def cLoop (b : Code) (_ : CoK) : CoK := fun _ self N t s => seqR (.loop b) self N (self (.code b N t s))
noncomputable def cErr : CoK := fun _ _ _ _ _ => .err
noncomputable def cExit (i : Nat) : CoK := fun _ _ _ t s => .fin (.exit i) t s
noncomputable def cRet : CoK := fun _ _ _ t s => .fin .ret t s
noncomputable def stepCodeF [Sym] (c : Code) : CoK :=
  Code.rec (motive := fun _ => CoK) cSkip cRegion cSeq cCond cBlock cLoop (fun _ _ _ _ _ _ => cErr) cExit (fun _ _ => cErr) (fun _ => cSkip) (fun _ => cErr) cRet (fun _ => cErr) c
theorem seqR_eq (b : Code) (self : Req → Res) (N : Nat) (r : Res) : seqR b self N r = (match r with | .fin .normal t s => self (.code b N t s) | .fin e t s => .fin e t s | _ => .err) := by
  cases r with
  | fin e t s => cases e <;> rfl
  | _ => rfl
theorem stepCodeF_eq [Sym] (P : Program) (self : Req → Res) (c : Code) (N : Nat) (t : Tm) (s : St) : stepCodeF c P self N t s = stepCode P self c N t s := by
  cases c with
  | seq a b => exact seqR_eq b self N _
  | loop b => exact seqR_eq (.loop b) self N _
  | region i ops draw =>
    show finR (evRegF P self ops draw N t s) = _
    rw [evRegF_eq]
    simp only [stepCode]
    cases evReg P self ops draw N t s <;> rfl
  | cond x a b =>
    show cond (okOpd x) _ _ = _
    simp only [stepCode]
    cases okOpd x with
    | false => rfl
    | true =>
      rw [cond_true, if_pos rfl]
      cases ov t x with
      | bool v => cases v <;> rfl
      | _ => rfl
  | block i b =>
    show blkR i (self (.code b N t s)) = _
    simp only [stepCode]
    cases self (.code b N t s) with
    | fin e t' s' =>
      cases e with
      | exit j =>
        show cond (Nat.beq j i) _ _ = (if j = i then _ else _)
        by_cases h : j = i
        · subst h; rw [if_pos rfl, Nat.beq_refl]; rfl
        · rw [if_neg h]
          cases hb : Nat.beq j i with
          | true => exact (h (Nat.eq_of_beq_eq_true hb)).elim
          | false => rfl
      | _ => rfl
    | _ => rfl
  | _ => rfl
noncomputable def resK (l : Option (List Value)) (s : St) : Res := Option.rec (motive := fun _ => Res) .err (fun l => .val (oneOr l) s) l
noncomputable def fnE (P : Program) (fn : Func) (e : EX) (t : Tm) (s : St) : Res := EX.rec (motive := fun _ => Res) (resK (evResults P s t fn.results.toList) s) (fun _ => .err) (resK (evResults P s t fn.results.toList) s) e
noncomputable def fnR (P : Program) (fn : Func) (r : Res) : Res := Res.rec (motive := fun _ => Res) (fnE P fn) (fun _ _ => .err) .err r
noncomputable def fnB (P : Program) (self : Req → Res) (fn : Func) (args : List Value) (s : St) (b : Code) : Res :=
  cond (Nat.ble args.length fn.ntmps) (fnR P fn (self (.code b fn.ntmps (put args 0 .leaf) s))) .err
noncomputable def fnF (P : Program) (self : Req → Res) (args : List Value) (s : St) (fn : Func) : Res := Option.rec (motive := fun _ => Res) .err (fnB P self fn args s) fn.body
noncomputable def stepFnF (P : Program) (self : Req → Res) (g : FuncId) (args : List Value) (s : St) : Res := Option.rec (motive := fun _ => Res) .err (fnF P self args s) P.funcs[g]?
theorem stepFnF_eq [Sym] (P : Program) (self : Req → Res) (g : FuncId) (args : List Value) (s : St) : stepFnF P self g args s = stepFn P self g args s := by
  unfold stepFnF stepFn
  cases P.funcs[g]? with
  | none => rfl
  | some fn =>
    show fnF P self args s fn = _
    unfold fnF
    simp only
    cases fn.body with
    | none => rfl
    | some b =>
      show cond (Nat.ble args.length fn.ntmps) _ _ = _
      simp only
      by_cases h : args.length ≤ fn.ntmps
      · rw [if_pos h, show Nat.ble args.length fn.ntmps = true from Nat.ble_eq ▸ h, cond_true]
        cases self (.code b fn.ntmps (put args 0 .leaf) s) with
        | fin e t s' =>
          cases e with
          | exit i => rfl
          | normal =>
            show resK (evResults P s' t fn.results.toList) s' = _
            simp only
            cases evResults P s' t fn.results.toList <;> rfl
          | ret =>
            show resK (evResults P s' t fn.results.toList) s' = _
            simp only
            cases evResults P s' t fn.results.toList <;> rfl
        | _ => rfl
      · rw [if_neg h]
        cases hb : Nat.ble args.length fn.ntmps with
        | true => exact (h (Nat.ble_eq ▸ hb)).elim
        | false => rfl
noncomputable def orcR (k : Res) (r : Option (Value × St)) : Res := Option.rec (motive := fun _ => Res) k (fun p => Prod.rec (motive := fun _ => Res) (fun v s => .val v s) p) r
noncomputable def stepF [Sym] (P : Program) (orc : Orc) (self : Req → Res) (q : Req) : Res :=
  Req.rec (motive := fun _ => Res) (fun c N t s => stepCodeF c P self N t s) (fun g args s => orcR (stepFnF P self g args s) (orc g args s)) q
theorem stepF_eq [Sym] (P : Program) (orc : Orc) (self : Req → Res) (q : Req) : stepF P orc self q = step P orc self q := by
  cases q with
  | code c N t s => exact stepCodeF_eq P self c N t s
  | fn g args s =>
    show orcR (stepFnF P self g args s) (orc g args s) = _
    rw [stepFnF_eq]
    simp only [step]
    cases orc g args s with
    | none => rfl
    | some p => rfl
noncomputable def runF [Sym] (P : Program) (orc : Orc) (n : Nat) : Req → Res :=
  Nat.rec (motive := fun _ => Req → Res) (fun _ => .err) (fun _ ih => stepF P orc ih) n
theorem runF_eq [Sym] (P : Program) (orc : Orc) : ∀ n, runF P orc n = run P orc n
  | 0 => rfl
  | n + 1 => by
    funext q
    show stepF P orc (runF P orc n) q = step P orc (run P orc n) q
    rw [stepF_eq, runF_eq P orc n]
theorem fast [Sym] {P : Program} {orc : Orc} {n : Nat} {q : Req} (h : isTrue (runF P orc n q) = true) : isTrue (run P orc n q) = true := by rw [← runF_eq]; exact h
end
end Go.Ev
