/-
  A verified evaluator of the model's code, part B (own work): no condition; the theorem 'sound' of its last part is what a claim uses.
-/
import Derived.Test.YtedjimkpmmacoaaGreatDoorEvA
import Derived.LaidEql
namespace Go.Ev
set_option linter.all false
set_option linter.unusedVariables false
set_option linter.unusedSimpArgs false
set_option linter.unusedSectionVars false
set_option linter.unnecessarySimpa false
open Go Go.RowKit
variable [Tok]
section
variable {P : Program} {B : Nat → Prop} {γ : Gh} {s : St} {w : World}

def evInt (op : BinOp) (k : IntKind) (a b : Int) : Option Value :=
  match op with
  | .add => some (.int k (k.wrap (a + b)))
  | .sub => some (.int k (k.wrap (a - b)))
  | .mul => some (.int k (k.wrap (a * b)))
  | .quo => if b = 0 then none else some (.int k (k.wrap (a.tdiv b)))
  | .rem => if b = 0 then none else some (.int k (a.tmod b))
  | .and => some (.int k (k.wrap (BitVec.ofInt k.bits a &&& BitVec.ofInt k.bits b).toNat))
  | .or => some (.int k (k.wrap (BitVec.ofInt k.bits a ||| BitVec.ofInt k.bits b).toNat))
  | .xor => some (.int k (k.wrap (BitVec.ofInt k.bits a ^^^ BitVec.ofInt k.bits b).toNat))
  | .andNot => some (.int k (k.wrap (BitVec.ofInt k.bits a &&& ~~~ BitVec.ofInt k.bits b).toNat))
  | .eql => some (.bool (a == b))
  | .neq => some (.bool (a != b))
  | .lss => some (.bool (decide (a < b)))
  | .leq => some (.bool (decide (a ≤ b)))
  | .gtr => some (.bool (decide (a > b)))
  | .geq => some (.bool (decide (a ≥ b)))
  | _ => none
def evShift (op : BinOp) (k : IntKind) (a b : Int) : Option Value :=
  if b < 0 then none else
  match op with
  | .shl => some (.int k (k.wrap (a * 2 ^ (min b.toNat k.bits))))
  | .shr => some (.int k (a.fdiv (2 ^ (min b.toNat k.bits))))
  | _ => none
def isShift : BinOp → Bool
  | .shl => true
  | .shr => true
  | _ => false
def evStr (op : BinOp) (x y : List UInt8) : Option Value :=
  match op with
  | .add => if x.length + y.length ≤ 1099511627776 then some (.string ⟨(x ++ y).toArray⟩) else none
  | .eql => some (.bool (x == y))
  | .neq => some (.bool (!(x == y)))
  | .lss => some (.bool (Op.bytesLess x y))
  | .leq => some (.bool (Op.bytesLess x y || x == y))
  | .gtr => some (.bool (!(Op.bytesLess x y || x == y)))
  | .geq => some (.bool (!(Op.bytesLess x y)))
  | _ => none
/-- two values held against each other, one level -/
noncomputable def evEq1 (P : Program) (t : TypeId) (x y : Value) : Option Bool :=
  match P.underlying t, x, y with
  | some .bool, .bool a, .bool b => some (a == b)
  | some (.int _), .int k a, .int k' b => if k = k' then some (a == b) else none
  | some .string, .string a, .string b => some (a.data.toList == b.data.toList)
  | some (.pointer _), .pointer none, .pointer b => some b.isNone
  | some (.pointer _), .pointer _, .pointer none => some false
  | some (.pointer e), .pointer (some a), .pointer (some b) => match P.info? e with
    | some _ => if a.block = b.block ∧ a.off = b.off then some true else none
    | none => none
  | some (.interface _), .nilIface, .nilIface => some true
  | some (.interface _), .nilIface, .iface _ _ => some false
  | some (.interface _), .iface _ _, .nilIface => some false
  | some (.slice _), .slice none _ 0, .slice none _ 0 => some true
  | some (.slice _), .slice none _ 0, .slice (some _) _ _ => some false
  | some (.slice _), .slice (some _) _ _, .slice none _ 0 => some false
  | some (.func _ _ _), .nilFunc, .nilFunc => some true
  | some (.func _ _ _), .nilFunc, .func _ _ _ => some false
  | some (.func _ _ _), .func _ _ _, .nilFunc => some false
  | _, _, _ => none
theorem ba_beq (a b : ByteArray) : (a == b) = (a.data.toList == b.data.toList) := by
  cases a; cases b
  rename_i x y
  show (x == y) = _
  cases x; cases y; simp
theorem evEq1_run {t : TypeId} {x y : Value} {b : Bool} (d : Nat) (he : evEq1 P t x y = some b) :
    (Op.equalIn (d + 1) t (ren γ x) (ren γ y)).run P w = .ok b w := by
  unfold evEq1 at he
  split at he
  · rename_i a b' hu; injection he with he; subst he; simp [Op.equalIn, run_underlying hu, ren]
  · rename_i q k a k' b' hu
    split at he
    · rename_i hk; injection he with he; subst he hk; simp [Op.equalIn, run_underlying hu, ren]
    · cases he
  · rename_i a b' hu
    injection he with he; subst he
    simp only [Op.equalIn, Sem.run_bind, run_underlying hu, Result.andThen_ok, ren, Sem.run_pure]
    rw [ba_beq]
  · rename_i e b' hu
    injection he with he; subst he
    cases b' <;> simp [Op.equalIn, run_underlying hu, ren]
  · rename_i e a hn hu
    injection he with he; subst he
    cases a with
    | none => exact (hn rfl).elim
    | some a => simp [Op.equalIn, run_underlying hu, ren]
  · rename_i e a b' hu
    cases hi : P.info? e with
    | none => rw [hi] at he; cases he
    | some j =>
      rw [hi] at he
      simp only at he
      split at he
      · rename_i hab
        injection he with he; subst he
        have hat : γ.at b' = γ.at a := by unfold Gh.at; rw [hab.1, hab.2]
        simp only [ren, hat]
        simp [Op.equalIn, run_underlying hu, sizeOf, typeInfo, hi, run_sameAddr_same]
      · cases he
  · rename_i ms hu; injection he with he; subst he; simp [Op.equalIn, run_underlying hu, ren]
  · rename_i ms _ _ hu; injection he with he; subst he; simp [Op.equalIn, run_underlying hu, ren]
  · rename_i ms _ _ hu; injection he with he; subst he; simp [Op.equalIn, run_underlying hu, ren]
  · rename_i hu; injection he with he; subst he; simp [Op.equalIn, run_underlying hu, ren, tailA, tailC]
  · rename_i hu; injection he with he; subst he; simp [Op.equalIn, run_underlying hu, ren, tailA, tailC]
  · rename_i hu; injection he with he; subst he; simp [Op.equalIn, run_underlying hu, ren, tailA, tailC]
  · rename_i hu; injection he with he; subst he; simp [Op.equalIn, run_underlying hu, ren]
  · rename_i hu; injection he with he; subst he; simp [Op.equalIn, run_underlying hu, ren]
  · rename_i hu; injection he with he; subst he; simp [Op.equalIn, run_underlying hu, ren]
  · cases he
end
end Go.Ev
