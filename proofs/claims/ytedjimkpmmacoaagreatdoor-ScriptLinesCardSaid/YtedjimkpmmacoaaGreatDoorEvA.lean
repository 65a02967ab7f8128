/-
  A verified evaluator of the model's code, part A (own work): no condition; the theorem 'sound' of its last part is what a claim uses.
-/
import Derived.Calls
import Derived.Orders
import Derived.Below
import Derived.KernelRfl
import Derived.Laws.IdiomCopy
import Derived.ChangeKeysEq
import Derived.Laws.Tables
import Derived.Laws.BytesString
import Derived.Laws.Append
import Derived.Laws.Externs
namespace Go.Ev
set_option linter.all false
set_option linter.unusedVariables false
set_option linter.unusedSimpArgs false
set_option linter.unusedSectionVars false
set_option linter.unnecessarySimpa false
open Go Go.RowKit

/-- What the tokens stand for: a number of kind int, a text. -/
class Tok where
  tok : Nat → Int
  str : Nat → ByteArray
variable [Tok]
/-- The kind of a token that stands for a number. -/
def kd (j : Nat) : IntKind :=
  match j with
  | 1 => .u64
  | 2 => .u8
  | 3 => .u16
  | 4 => .u32
  | 5 => .i32
  | _ => .i64

/-- What leaves the blocks of a frame as they are. -/
structure Fr (B : Nat → Prop) (w w' : World) : Prop where
  os : w'.os = w.os
  tape : w'.tape = w.tape
  output : w'.output = w.output
  size : w.heap.size ≤ w'.heap.size
  block : ∀ k, B k → w'.heap[k]? = w.heap[k]?
theorem Fr.refl (B : Nat → Prop) (w : World) : Fr B w w := ⟨rfl, rfl, rfl, Nat.le_refl _, fun _ _ => rfl⟩
theorem Fr.trans {B : Nat → Prop} {a b c : World} (h : Fr B a b) (k : Fr B b c) : Fr B a c :=
  ⟨k.os.trans h.os, k.tape.trans h.tape, k.output.trans h.output, Nat.le_trans h.size k.size, fun i hi => (k.block i hi).trans (h.block i hi)⟩
theorem Fr.mono {B B' : Nat → Prop} {w w' : World} (h : Fr B w w') (hB : ∀ k, B' k → B k) : Fr B' w w' := ⟨h.os, h.tape, h.output, h.size, fun k hk => h.block k (hB k hk)⟩
theorem Fr.drew {B : Nat → Prop} {a w : World} (h : Fr B a w) : Fr B a w.drew := ⟨h.os, h.tape, h.output, h.size, h.block⟩
theorem Fr.alloc {B : Nat → Prop} {a w : World} (h : Fr B a w) (hB : ∀ k, B k → k < w.heap.size) (o : Obj) : Fr B a (w.alloc o) :=
  ⟨h.os, h.tape, h.output, Nat.le_trans h.size (by simp), fun i hi => (Below.heap_alloc w o i (hB i hi)).trans (h.block i hi)⟩
theorem Fr.setCell {B : Nat → Prop} {a w : World} (h : Fr B a w) {p : Addr} (hp : ¬ B p.block) (u : Value) : Fr B a (w.setCell p u) :=
  ⟨h.os, h.tape, h.output, by simpa [World.setCell] using h.size, fun i hi => (Below.heap_setCell w p u i (fun e => hp (e ▸ hi))).trans (h.block i hi)⟩
theorem Fr.below {w w' : World} (h : Fr (fun k => k < w.heap.size) w w') : Below w.heap.size w w' := ⟨h.os, h.tape, h.output, h.size, h.block⟩
theorem Fr.of_below {B : Nat → Prop} {w w' : World} (h : Below w.heap.size w w') (hB : ∀ k, B k → k < w.heap.size) : Fr B w w' := ⟨h.os, h.tape, h.output, h.size, fun k hk => h.block k (hB k hk)⟩

structure Gh where
  blk : Nat → Nat
  off : Nat → Nat
  ext : Nat → Nat

def Gh.at (γ : Gh) (a : Addr) : Addr := ⟨γ.blk a.block, γ.off a.block + a.off, none⟩

/-- The end of an open object, as a slice without elements: its number and how far its end lies stand in one number. -/
def tailB (c : Nat) : Nat := (c - 1) / 18446744073709551616
def tailO (c : Nat) : Nat := (c - 1) / 4294967296 % 4294967296
def tailK (c : Nat) : Nat := (c - 1) % 4294967296
def tailA (γ : Gh) (c : Nat) : Option Addr := if c = 0 then none else some ⟨γ.blk (tailB c), (if γ.ext (tailB c) = 0 then γ.off (tailB c) + tailO c else γ.off (tailB c) + tailK c), none⟩
def tailC (γ : Gh) (c : Nat) : Nat := if c = 0 then 0 else γ.ext (tailB c)

mutual
def ren (γ : Gh) : Value → Value
  | .pointer (some a) => .pointer (some (γ.at a))
  | .slice (some a) l c => .slice (some (γ.at a)) l (c + γ.ext a.block)
  | .slice none l c => .slice (tailA γ c) l (tailC γ c)
  | .func fn ⟨f⟩ ⟨c⟩ => .func fn ⟨renL γ f⟩ ⟨renL γ c⟩
  | .iface t v => .iface t (ren γ v)
  | .agg ⟨c⟩ => .agg ⟨renL γ c⟩
  | .tuple ⟨c⟩ => .tuple ⟨renL γ c⟩
  | .complex _ i j => .int (kd j) (Tok.tok i)
  | .float _ i => .string (Tok.str i)
  | .map (some i) => .map (some (γ.blk i))
  | v => v
def renL (γ : Gh) : List Value → List Value
  | [] => []
  | v :: l => ren γ v :: renL γ l
end
mutual
def Wf (n : Nat) : Value → Prop
  | .pointer (some a) => a.block < n
  | .slice (some a) _ _ => a.block < n
  | .slice none _ c => c = 0 ∨ tailB c < n
  | .func _ ⟨f⟩ ⟨c⟩ => WfL n f ∧ WfL n c
  | .iface _ v => Wf n v
  | .agg ⟨c⟩ => WfL n c
  | .tuple ⟨c⟩ => WfL n c
  | .map (some i) => i < n
  | .chan (some _) => False
  | _ => True
def WfL (n : Nat) : List Value → Prop
  | [] => True
  | v :: l => Wf n v ∧ WfL n l
end
theorem renL_eq (γ : Gh) (l : List Value) : renL γ l = l.map (ren γ) := by
  induction l with
  | nil => rfl
  | cons v l ih => simp [renL, ih]
theorem WfL_iff (n : Nat) (l : List Value) : WfL n l ↔ ∀ v ∈ l, Wf n v := by
  induction l with
  | nil => simp [WfL]
  | cons v l ih => simp [WfL, ih]
theorem ren_agg (γ : Gh) (c : Array Value) : ren γ (.agg c) = .agg (c.map (ren γ)) := by
  cases c; simp [ren, renL_eq]
theorem ren_tuple (γ : Gh) (c : Array Value) : ren γ (.tuple c) = .tuple (c.map (ren γ)) := by
  cases c; simp [ren, renL_eq]
theorem ren_func (γ : Gh) (fn : Fn) (f c : Array Value) : ren γ (.func fn f c) = .func fn (f.map (ren γ)) (c.map (ren γ)) := by
  cases f; cases c; simp [ren, renL_eq]
theorem Wf_agg (n : Nat) (c : Array Value) : Wf n (.agg c) ↔ ∀ v ∈ c, Wf n v := by
  cases c; simp [Wf, WfL_iff]
theorem Wf_tuple (n : Nat) (c : Array Value) : Wf n (.tuple c) ↔ ∀ v ∈ c, Wf n v := by
  cases c; simp [Wf, WfL_iff]
theorem Wf_func (n : Nat) (fn : Fn) (f c : Array Value) : Wf n (.func fn f c) ↔ (∀ v ∈ f, Wf n v) ∧ (∀ v ∈ c, Wf n v) := by
  cases f; cases c; simp [Wf, WfL_iff]

structure Ext (n : Nat) (γ γ' : Gh) : Prop where
  blk : ∀ i < n, γ'.blk i = γ.blk i
  off : ∀ i < n, γ'.off i = γ.off i
  ext : ∀ i < n, γ'.ext i = γ.ext i

mutual
theorem ren_ext {n : Nat} {γ γ' : Gh} (h : Ext n γ γ') : ∀ v, Wf n v → ren γ' v = ren γ v
  | .pointer (some a), hv => by simp [ren, Gh.at, h.blk _ hv, h.off _ hv]
  | .pointer none, _ => rfl
  | .slice (some a) l c, hv => by simp [ren, Gh.at, h.blk _ hv, h.off _ hv, h.ext _ hv]
  | .slice none _ c, hv => by
    rcases (show c = 0 ∨ tailB c < n from hv) with hc | hc
    · subst hc; rfl
    · simp only [ren, tailA, tailC, h.blk _ hc, h.off _ hc, h.ext _ hc]
  | .func fn ⟨f⟩ ⟨c⟩, hv => by simp only [ren]; rw [renL_ext h f hv.1, renL_ext h c hv.2]
  | .iface t v, hv => by simp only [ren]; rw [ren_ext h v hv]
  | .agg ⟨c⟩, hv => by simp only [ren]; rw [renL_ext h c hv]
  | .tuple ⟨c⟩, hv => by simp only [ren]; rw [renL_ext h c hv]
  | .map (some i), hv => by simp only [ren]; rw [h.blk _ hv]
  | .map none, _ | .chan (some _), _ | .chan none, _ => rfl
  | .complex _ _ _, _ | .float _ _, _ => rfl
  | .bool _, _ | .int _ _, _ | .string _, _ | .nilFunc, _ | .nilIface, _ => rfl
theorem renL_ext {n : Nat} {γ γ' : Gh} (h : Ext n γ γ') : ∀ l, WfL n l → renL γ' l = renL γ l
  | [], _ => rfl
  | v :: l, hv => by simp only [renL]; rw [ren_ext h v hv.1, renL_ext h l hv.2]
end
mutual
theorem Wf.mono {n m : Nat} (h : n ≤ m) : ∀ v, Wf n v → Wf m v
  | .pointer (some a), hv => Nat.lt_of_lt_of_le (show a.block < n from hv) h
  | .pointer none, _ => trivial
  | .slice (some a) _ _, hv => Nat.lt_of_lt_of_le (show a.block < n from hv) h
  | .slice none _ c, hv => (show c = 0 ∨ tailB c < n from hv).imp_right fun q => Nat.lt_of_lt_of_le q h
  | .func fn ⟨f⟩ ⟨c⟩, hv => ⟨WfL.mono h f hv.1, WfL.mono h c hv.2⟩
  | .iface t v, hv => Wf.mono h v hv
  | .agg ⟨c⟩, hv => WfL.mono h c hv
  | .tuple ⟨c⟩, hv => WfL.mono h c hv
  | .map none, _ | .chan none, _ => trivial
  | .map (some i), hv => Nat.lt_of_lt_of_le (show i < n from hv) h
  | .chan (some _), hv => hv
  | .bool _, _ | .int _ _, _ | .float _ _, _ | .complex _ _ _, _ | .string _, _ | .nilFunc, _ | .nilIface, _ => trivial
theorem WfL.mono {n m : Nat} (h : n ≤ m) : ∀ l, WfL n l → WfL m l
  | [], _ => trivial
  | v :: l, hv => ⟨Wf.mono h v hv.1, WfL.mono h l hv.2⟩
end
theorem Ext.refl (n : Nat) (γ : Gh) : Ext n γ γ := ⟨fun _ _ => rfl, fun _ _ => rfl, fun _ _ => rfl⟩
theorem Ext.trans {n m : Nat} {a b c : Gh} (h : Ext n a b) (k : Ext m b c) (hm : n ≤ m) : Ext n a c :=
  ⟨fun i hi => (k.blk i (Nat.lt_of_lt_of_le hi hm)).trans (h.blk i hi), fun i hi => (k.off i (Nat.lt_of_lt_of_le hi hm)).trans (h.off i hi), fun i hi => (k.ext i (Nat.lt_of_lt_of_le hi hm)).trans (h.ext i hi)⟩

theorem ren_cells (γ : Gh) (v : Value) : (ren γ v).cells = v.cells.map (ren γ) := by
  cases v with
  | agg c => rw [ren_agg]; rfl
  | func fn f c => rw [ren_func]; simp [Value.cells, ren_func]
  | tuple c => rw [ren_tuple]; simp [Value.cells, ren_tuple]
  | pointer a => cases a <;> simp [ren, Value.cells]
  | slice a l c => cases a <;> simp [ren, Value.cells]
  | map a => cases a <;> simp [ren, Value.cells]
  | _ => simp [ren, Value.cells]
theorem Wf_cells {n : Nat} {v : Value} (h : Wf n v) : ∀ x ∈ v.cells, Wf n x := by
  cases v with
  | agg c => exact (Wf_agg n c).1 h
  | _ => simpa [Value.cells] using h
/-! tries, rows, states -/
inductive Tr (α : Type) where
  | leaf
  | node (v : α) (l r : Tr α)

noncomputable def Tr.get {α : Type} (d : α) (t : Tr α) : Nat → α :=
  Tr.rec (motive := fun _ => Nat → α) (fun _ => d)
    (fun v _ _ gl gr i => Nat.rec (motive := fun _ => α) v
      (fun j _ => Bool.rec (motive := fun _ => α) (gr (Nat.div j 2)) (gl (Nat.div j 2)) (Nat.beq (Nat.mod j 2) 0)) i) t

/-- The trie with place i turned, handed to k; f: fuel, more than i. -/
noncomputable def Tr.setK {α β : Type} (d x : α) (f : Nat) : Nat → Tr α → (Tr α → β) → β :=
  Nat.rec (motive := fun _ => Nat → Tr α → (Tr α → β) → β) (fun _ t k => k t)
    (fun _ ih i t k => Nat.rec (motive := fun _ => β)
      (Tr.rec (motive := fun _ => β) (k (.node x .leaf .leaf)) (fun _ l r _ _ => k (.node x l r)) t)
      (fun j _ => Bool.rec (motive := fun _ => β)
        (Tr.rec (motive := fun _ => β) (ih (Nat.div j 2) .leaf fun r => k (.node d .leaf r)) (fun v l r _ _ => ih (Nat.div j 2) r fun r => k (.node v l r)) t)
        (Tr.rec (motive := fun _ => β) (ih (Nat.div j 2) .leaf fun l => k (.node d l .leaf)) (fun v l r _ _ => ih (Nat.div j 2) l fun l => k (.node v l r)) t)
        (Nat.beq (Nat.mod j 2) 0)) i) f

noncomputable def Tr.set {α : Type} (d x : α) (i : Nat) (t : Tr α) : Tr α := Tr.setK d x (i + 1) i t id

section
variable {α β : Type} (d x : α)
theorem Tr.get_leaf (i : Nat) : Tr.get d .leaf i = d := rfl
theorem Tr.get_zero (v : α) (l r : Tr α) : Tr.get d (.node v l r) 0 = v := rfl
theorem Tr.get_succ (v : α) (l r : Tr α) (j : Nat) : Tr.get d (.node v l r) (j + 1) = if j % 2 = 0 then Tr.get d l (j / 2) else Tr.get d r (j / 2) := by
  show Bool.rec (motive := fun _ => α) (Tr.get d r (j / 2)) (Tr.get d l (j / 2)) (Nat.beq (j % 2) 0) = _
  by_cases h : j % 2 = 0
  · have : Nat.beq (j % 2) 0 = true := by rw [h]; rfl
    rw [this, if_pos h]
  · have : Nat.beq (j % 2) 0 = false := by
      cases hb : Nat.beq (j % 2) 0
      · rfl
      · exact absurd (Nat.eq_of_beq_eq_true hb) h
    rw [this, if_neg h]

theorem Tr.setK_id' (f : Nat) : ∀ (β : Type) (i : Nat) (t : Tr α) (k : Tr α → β), Tr.setK d x f i t k = k (Tr.setK d x f i t id) := by
  induction f with
  | zero => intro β i t k; rfl
  | succ f ih =>
    intro β i t k
    cases i with
    | zero => cases t <;> rfl
    | succ j =>
      show Bool.rec (motive := fun _ => β) _ _ (Nat.beq (j % 2) 0) = k (Bool.rec (motive := fun _ => Tr α) _ _ (Nat.beq (j % 2) 0))
      cases Nat.beq (j % 2) 0
      · cases t with
        | leaf => exact (ih β (j / 2) .leaf fun r => k (.node d .leaf r)).trans (congrArg k (ih (Tr α) (j / 2) .leaf fun r => .node d .leaf r).symm)
        | node v l r => exact (ih β (j / 2) r fun r => k (.node v l r)).trans (congrArg k (ih (Tr α) (j / 2) r fun r => .node v l r).symm)
      · cases t with
        | leaf => exact (ih β (j / 2) .leaf fun l => k (.node d l .leaf)).trans (congrArg k (ih (Tr α) (j / 2) .leaf fun l => .node d l .leaf).symm)
        | node v l r => exact (ih β (j / 2) l fun l => k (.node v l r)).trans (congrArg k (ih (Tr α) (j / 2) l fun l => .node v l r).symm)
theorem Tr.setK_id (f : Nat) (i : Nat) (t : Tr α) (k : Tr α → β) : Tr.setK d x f i t k = k (Tr.setK d x f i t id) := Tr.setK_id' d x f β i t k

theorem Tr.get_setK (f : Nat) : ∀ (i j : Nat) (t : Tr α), i < f → Tr.get d (Tr.setK d x f i t id) j = if j = i then x else Tr.get d t j := by
  induction f with
  | zero => intro i j t h; omega
  | succ f ih =>
    intro i j t h
    cases i with
    | zero =>
      cases t with
      | leaf =>
        show Tr.get d (.node x .leaf .leaf) j = _
        cases j with
        | zero => rfl
        | succ j => rw [Tr.get_succ]; simp [Tr.get_leaf]
      | node v l r =>
        show Tr.get d (.node x l r) j = _
        cases j with
        | zero => rfl
        | succ j => rw [Tr.get_succ]; simp [Tr.get_succ]
    | succ i =>
      have hlt : i / 2 < f := by omega
      show Tr.get d (Bool.rec (motive := fun _ => Tr α) _ _ (Nat.beq (i % 2) 0)) j = _
      by_cases hp : i % 2 = 0
      · have hb : Nat.beq (i % 2) 0 = true := by rw [hp]; rfl
        rw [hb]
        cases t with
        | leaf =>
          show Tr.get d (Tr.setK d x f (i / 2) .leaf fun l => .node d l .leaf) j = _
          rw [Tr.setK_id]
          cases j with
          | zero => simp [Tr.get_zero, Tr.get_leaf]
          | succ j =>
            rw [Tr.get_succ, ih _ _ _ hlt]
            simp only [Tr.get_leaf]
            by_cases hj : j % 2 = 0
            · rw [if_pos hj]
              by_cases e : j = i
              · subst e; simp
              · rw [if_neg (by omega), if_neg (by omega)]
            · rw [if_neg hj, if_neg (by omega)]
        | node v l r =>
          show Tr.get d (Tr.setK d x f (i / 2) l fun l => .node v l r) j = _
          rw [Tr.setK_id]
          cases j with
          | zero => simp [Tr.get_zero]
          | succ j =>
            rw [Tr.get_succ, Tr.get_succ, ih _ _ _ hlt]
            by_cases hj : j % 2 = 0
            · rw [if_pos hj, if_pos hj]
              by_cases e : j = i
              · subst e; simp
              · rw [if_neg (by omega), if_neg (by omega)]
            · rw [if_neg hj, if_neg hj, if_neg (by omega)]
      · have hb : Nat.beq (i % 2) 0 = false := by
          cases hb : Nat.beq (i % 2) 0
          · rfl
          · exact absurd (Nat.eq_of_beq_eq_true hb) hp
        rw [hb]
        cases t with
        | leaf =>
          show Tr.get d (Tr.setK d x f (i / 2) .leaf fun r => .node d .leaf r) j = _
          rw [Tr.setK_id]
          cases j with
          | zero => simp [Tr.get_zero, Tr.get_leaf]
          | succ j =>
            rw [Tr.get_succ, ih _ _ _ hlt]
            simp only [Tr.get_leaf]
            by_cases hj : j % 2 = 0
            · rw [if_pos hj, if_neg (by omega)]
            · rw [if_neg hj]
              by_cases e : j = i
              · subst e; simp
              · rw [if_neg (by omega), if_neg (by omega)]
        | node v l r =>
          show Tr.get d (Tr.setK d x f (i / 2) r fun r => .node v l r) j = _
          rw [Tr.setK_id]
          cases j with
          | zero => simp [Tr.get_zero]
          | succ j =>
            rw [Tr.get_succ, Tr.get_succ, ih _ _ _ hlt]
            by_cases hj : j % 2 = 0
            · rw [if_pos hj, if_pos hj, if_neg (by omega)]
            · rw [if_neg hj, if_neg hj]
              by_cases e : j = i
              · subst e; simp
              · rw [if_neg (by omega), if_neg (by omega)]
end
theorem Tr.get_set {α : Type} (d x : α) (i j : Nat) (t : Tr α) : Tr.get d (Tr.set d x i t) j = if j = i then x else Tr.get d t j :=
  Tr.get_setK d x (i + 1) i j t (by omega)
theorem Tr.setK_eq {α β : Type} (d x : α) (i : Nat) (t : Tr α) (k : Tr α → β) : Tr.setK d x (i + 1) i t k = k (Tr.set d x i t) := Tr.setK_id d x _ i t k

abbrev Row := Tr Value

/-- The cells off, off + 1, .. as a list of n. -/
noncomputable def cut (c : Row) (n : Nat) : Nat → List Value :=
  Nat.rec (motive := fun _ => Nat → List Value) (fun _ => []) (fun _ ih off => Tr.get undef c off :: ih (off + 1)) n
/-- The cells of a list laid from off on. -/
noncomputable def putK {β : Type} (l : List Value) : Nat → Row → (Row → β) → β :=
  List.rec (motive := fun _ => Nat → Row → (Row → β) → β) (fun _ c k => k c) (fun v _ ih off c k => Tr.setK undef v (off + 1) off c fun c => ih (off + 1) c k) l
noncomputable def put (l : List Value) (off : Nat) (c : Row) : Row := putK l off c id

theorem cut_succ (c : Row) (n off : Nat) : cut c (n + 1) off = Tr.get undef c off :: cut c n (off + 1) := rfl
theorem cut_length (c : Row) (n : Nat) : ∀ off, (cut c n off).length = n := by
  induction n with
  | zero => intro off; rfl
  | succ n ih => intro off; simp [cut_succ, ih]
theorem cut_get (c : Row) (n : Nat) : ∀ off k, (cut c n off)[k]? = if k < n then some (Tr.get undef c (off + k)) else none := by
  induction n with
  | zero => intro off k; simp [show cut c 0 off = [] from rfl]
  | succ n ih =>
    intro off k
    rw [cut_succ]
    cases k with
    | zero => simp
    | succ k => simp only [List.getElem?_cons_succ, ih, show off + 1 + k = off + (k + 1) from by omega, Nat.add_lt_add_iff_right]
theorem putK_cons {β : Type} (v : Value) (l : List Value) (off : Nat) (c : Row) (k : Row → β) :
    putK (v :: l) off c k = putK l (off + 1) (Tr.set undef v off c) k := by
  show Tr.setK undef v (off + 1) off c (fun c => putK l (off + 1) c k) = _
  rw [Tr.setK_eq]
theorem putK_eq' (l : List Value) : ∀ (β : Type) (off : Nat) (c : Row) (k : Row → β), putK l off c k = k (put l off c) := by
  induction l with
  | nil => intro β off c k; rfl
  | cons v l ih =>
    intro β off c k
    rw [putK_cons, ih]
    unfold put
    rw [putK_cons, ih (Row)]
theorem putK_eq {β : Type} (l : List Value) (off : Nat) (c : Row) (k : Row → β) : putK l off c k = k (put l off c) := putK_eq' l β off c k
theorem put_cons (v : Value) (l : List Value) (off : Nat) (c : Row) : put (v :: l) off c = put l (off + 1) (Tr.set undef v off c) := by
  unfold put; rw [putK_cons]
theorem put_get (l : List Value) : ∀ (off : Nat) (c : Row) (k : Nat), Tr.get undef (put l off c) k = if off ≤ k ∧ k < off + l.length then l.getD (k - off) undef else Tr.get undef c k := by
  induction l with
  | nil => intro off c k; rw [if_neg (by simp)]; rfl
  | cons v l ih =>
    intro off c k
    rw [put_cons, ih, Tr.get_set]
    by_cases h : k = off
    · subst h
      rw [if_neg (by omega), if_pos rfl, if_pos (by simp)]
      simp
    · rw [if_neg h]
      by_cases h2 : off + 1 ≤ k ∧ k < off + 1 + l.length
      · rw [if_pos h2, if_pos (by simp; omega)]
        obtain ⟨j, rfl⟩ : ∃ j, k = off + 1 + j := ⟨k - (off + 1), by omega⟩
        rw [show off + 1 + j - (off + 1) = j from by omega, show off + 1 + j - off = j + 1 from by omega]
        simp
      · rw [if_neg h2, if_neg (by simp; omega)]

structure AO where
  elem : TypeId
  sz : Nat
  live : Bool
  opn : Bool
  len : Nat
  cells : Row
  raw : Bool
def deadO : AO := ⟨0, 0, false, false, 0, .leaf, false⟩
structure MO where
  live : Bool
  ents : List MapEntry
  clock : Nat
def deadM : MO := ⟨false, [], 0⟩
structure St where
  n : Nat
  hp : Tr AO
  mp : Tr MO
noncomputable def St.mob (s : St) (i : Nat) : MO := Tr.get deadM s.mp i
noncomputable def St.obj (s : St) (i : Nat) : AO := Tr.get deadO s.hp i
def st0 : St := ⟨0, .leaf, .leaf⟩

/-- An entry of a map, renamed. -/
def renE (γ : Gh) (e : MapEntry) : MapEntry := { e with key := ren γ e.key, val := ren γ e.val }
structure RM (B : Nat → Prop) (γ : Gh) (s : St) (w : World) : Prop where
  lt : ∀ i, (s.mob i).live = true → i < s.n
  obj : ∀ i, (s.mob i).live = true → w.heap[γ.blk i]? = some (.map ((s.mob i).ents.map (renE γ)).toArray (s.mob i).clock)
  wf : ∀ i, (s.mob i).live = true → ∀ e ∈ (s.mob i).ents, Wf s.n e.key ∧ Wf s.n e.val
  inj : ∀ i j, (s.mob i).live = true → (s.mob j).live = true → γ.blk i = γ.blk j → i = j
  low : ∀ i, (s.mob i).live = true → ¬ B (γ.blk i)
theorem renE_ext {n : Nat} {γ γ' : Gh} (h : Ext n γ γ') (e : MapEntry) (hk : Wf n e.key) (hv : Wf n e.val) : renE γ' e = renE γ e := by
  unfold renE; rw [ren_ext h _ hk, ren_ext h _ hv]
theorem RM.keep {B : Nat → Prop} {γ γ' : Gh} {s s' : St} {w w' : World} (h : RM B γ s w) (hh : ∀ i, (s.mob i).live = true → w'.heap[γ.blk i]? = w.heap[γ.blk i]?)
    (hm : s'.mp = s.mp) (hn : s.n ≤ s'.n) (hx : Ext s.n γ γ') : RM B γ' s' w' := by
  have hmob : ∀ i, s'.mob i = s.mob i := fun i => by unfold St.mob; rw [hm]
  refine ⟨fun i hi => ?_, fun i hi => ?_, fun i hi e he => ?_, fun i j hi hj hij => ?_, fun i hi => ?_⟩
  · rw [hmob] at hi; exact Nat.lt_of_lt_of_le (h.lt i hi) hn
  · rw [hmob] at hi ⊢
    rw [hx.blk i (h.lt i hi), hh i hi, h.obj i hi]
    congr 3
    exact List.map_congr_left fun e he => (renE_ext hx e (h.wf i hi e he).1 (h.wf i hi e he).2).symm
  · rw [hmob] at hi he
    exact ⟨Wf.mono hn _ (h.wf i hi e he).1, Wf.mono hn _ (h.wf i hi e he).2⟩
  · rw [hmob] at hi hj
    rw [hx.blk i (h.lt i hi), hx.blk j (h.lt j hj)] at hij
    exact h.inj i j hi hj hij
  · rw [hmob] at hi
    rw [hx.blk i (h.lt i hi)]; exact h.low i hi

structure R (B : Nat → Prop) (γ : Gh) (s : St) (w : World) : Prop where
  lt : ∀ i, (s.obj i).live = true → i < s.n
  obj : ∀ i, (s.obj i).live = true → ∃ c fz, w.heap[γ.blk i]? = some (.cells c (s.obj i).elem fz) ∧ ((c.size ≤ fz.1 ∧ (s.obj i).raw = false) ∨ fz = (0, 0)) ∧
    γ.off i + (s.obj i).len + γ.ext i * (s.obj i).sz = c.size ∧ (∀ k, k < (s.obj i).len → c[γ.off i + k]? = some (ren γ (Tr.get undef (s.obj i).cells k)))
  wf : ∀ i, (s.obj i).live = true → ∀ k, k < (s.obj i).len → Wf s.n (Tr.get undef (s.obj i).cells k)
  cl : ∀ i, (s.obj i).live = true → (s.obj i).opn = false → γ.ext i = 0 ∧ γ.off i = 0
  inj : ∀ i j, (s.obj i).live = true → (s.obj j).live = true → γ.blk i = γ.blk j → i = j
  low : ∀ i, (s.obj i).live = true → ¬ B (γ.blk i)
  bnd : ∀ k, B k → k < w.heap.size
  m : RM B γ s w

theorem RM.zero (γ : Gh) (w : World) : RM (fun k => k < w.heap.size) γ st0 w := by
  have h0 : ∀ i, (st0.mob i).live = true → False := fun i h => absurd (show false = true from h) (by decide)
  exact ⟨fun i h => (h0 i h).elim, fun i h => (h0 i h).elim, fun i h => (h0 i h).elim, fun i j h _ _ => (h0 i h).elim, fun i h => (h0 i h).elim⟩
theorem st0_obj (i : Nat) : st0.obj i = deadO := rfl
theorem R.zero (γ : Gh) (w : World) : R (fun k => k < w.heap.size) γ st0 w := by
  have h0 : ∀ i, (st0.obj i).live = true → False := fun i h => by rw [st0_obj] at h; exact absurd h (by decide)
  exact ⟨fun i h => (h0 i h).elim, fun i h => (h0 i h).elim, fun i h => (h0 i h).elim, fun i h => (h0 i h).elim, fun i j h _ _ => (h0 i h).elim, fun i h => (h0 i h).elim, fun _ hk => hk, RM.zero γ w⟩
/-! the memory's primitives -/
noncomputable def ldL (s : St) (a : Addr) (n : Nat) : Option (List Value) :=
  if (s.obj a.block).live = true ∧ a.off + n ≤ (s.obj a.block).len then some (cut (s.obj a.block).cells n a.off) else none
noncomputable def St.setO (s : St) (i : Nat) (o : AO) : St := ⟨s.n, Tr.set deadO o i s.hp, s.mp⟩
noncomputable def stL (s : St) (a : Addr) (vs : List Value) : Option St :=
  if (s.obj a.block).live = true ∧ a.off + vs.length ≤ (s.obj a.block).len ∧ vs.all (·.oneCell') = true then
    some (s.setO a.block { s.obj a.block with cells := put vs a.off (s.obj a.block).cells })
  else none
noncomputable def St.mkR (s : St) (raw : Bool) (elem : TypeId) (sz : Nat) (opn : Bool) (vs : List Value) : St :=
  ⟨s.n + 1, Tr.set deadO ⟨elem, sz, true, opn, vs.length, put vs 0 .leaf, raw⟩ s.n s.hp, s.mp⟩
noncomputable def St.mk' (s : St) (elem : TypeId) (sz : Nat) (opn : Bool) (vs : List Value) : St := s.mkR true elem sz opn vs

noncomputable def St.unraw (s : St) (i : Nat) : St := s.setO i { s.obj i with raw := false }

theorem setO_obj (s : St) (i : Nat) (o : AO) (j : Nat) : (s.setO i o).obj j = if j = i then o else s.obj j := Tr.get_set _ _ _ _ _
theorem unraw_obj (s : St) (i j : Nat) : (s.unraw i).obj j = if j = i then { s.obj i with raw := false } else s.obj j := setO_obj _ _ _ _
theorem mkR_obj (s : St) (raw : Bool) (elem : TypeId) (sz : Nat) (opn : Bool) (vs : List Value) (j : Nat) :
    (s.mkR raw elem sz opn vs).obj j = if j = s.n then ⟨elem, sz, true, opn, vs.length, put vs 0 .leaf, raw⟩ else s.obj j := Tr.get_set _ _ _ _ _
theorem mk'_obj (s : St) (elem : TypeId) (sz : Nat) (opn : Bool) (vs : List Value) (j : Nat) :
    (s.mk' elem sz opn vs).obj j = if j = s.n then ⟨elem, sz, true, opn, vs.length, put vs 0 .leaf, true⟩ else s.obj j := Tr.get_set _ _ _ _ _

theorem add_mk (b o k : Nat) : (⟨b, o, none⟩ : Addr).add k = ⟨b, o + k, none⟩ := by
  unfold Addr.add; split <;> simp_all
theorem add_at (γ : Gh) (a : Addr) (k : Nat) : (γ.at a).add k = ⟨γ.blk a.block, γ.off a.block + a.off + k, none⟩ := by
  unfold Addr.add Gh.at; split <;> simp_all

section
variable {B : Nat → Prop} {γ : Gh} {s : St} {w : World}

theorem R.cell (h : R B γ s w) {i k : Nat} (hl : (s.obj i).live = true) (hk : k < (s.obj i).len) :
    w.cell? ⟨γ.blk i, γ.off i + k, none⟩ = some (ren γ (Tr.get undef (s.obj i).cells k)) := by
  obtain ⟨c, fz, hb, _, _, hc⟩ := h.obj i hl
  simp [World.cell?, hb, hc k hk]

theorem R.frozen (h : R B γ s w) {i k : Nat} (hl : (s.obj i).live = true) (hk : k < (s.obj i).len) :
    w.frozen? ⟨γ.blk i, γ.off i + k, none⟩ = false := by
  obtain ⟨c, fz, hb, hf, hs, _⟩ := h.obj i hl
  simp only [World.frozen?, hb]
  rcases hf with ⟨hf, _⟩ | rfl
  · simp; omega
  · simp

theorem R.ld (h : R B γ s w) {P : Program} {a : Addr} {n : Nat} {l : List Value} (hl : ldL s a n = some l) :
    (loadCells (γ.at a) n).run P w = .ok (l.map (ren γ)).toArray w ∧ (∀ v ∈ l, Wf s.n v) ∧ l.length = n := by
  unfold ldL at hl
  split at hl
  · rename_i hc
    obtain ⟨hlv, hle⟩ := hc
    injection hl with hl
    subst hl
    have hlen := cut_length (s.obj a.block).cells n a.off
    refine ⟨?_, ?_, hlen⟩
    · have := run_loadCells_list (P := P) w (γ.at a) ((cut (s.obj a.block).cells n a.off).map (ren γ)) ?_
      · rwa [List.length_map, hlen] at this
      · intro j v hj
        rw [List.getElem?_map, cut_get] at hj
        split at hj
        · rename_i hjn
          simp only [Option.map_some, Option.some.injEq] at hj
          subst hj
          rw [add_at, Nat.add_assoc]
          exact h.cell hlv (by omega)
        · simp at hj
    · intro v hv
      obtain ⟨j, hj⟩ := List.mem_iff_getElem?.1 hv
      rw [cut_get] at hj
      split at hj
      · injection hj with hj
        subst hj
        exact h.wf _ hlv _ (by omega)
      · cases hj
  · cases hl

theorem R.load1 (h : R B γ s w) {P : Program} {a : Addr} {v : Value} (hl : ldL s a 1 = some [v]) :
    (load (γ.at a)).run P w = .ok (ren γ v) w ∧ Wf s.n v := by
  obtain ⟨_, hwf, _⟩ := h.ld (P := P) hl
  refine ⟨?_, hwf v (by simp)⟩
  unfold ldL at hl
  split at hl
  · rename_i hc
    obtain ⟨hlv, hle⟩ := hc
    injection hl with hl
    rw [cut_succ] at hl
    injection hl with hv _
    subst hv
    have := h.cell hlv (k := a.off) (by omega)
    simp [Gh.at, this]
  · cases hl

theorem setCells_heap (b : Nat) : ∀ (vs : List Value) (o : Nat) (w : World) (c : Array Value) (t : TypeId) (fz : Nat × Nat), w.heap[b]? = some (.cells c t fz) →
    (w.setCells b o vs).heap[b]? = some (.cells ⟨c.toList.mapIdx fun k x => if o ≤ k ∧ k < o + vs.length then vs.getD (k - o) undef else x⟩ t fz)
  | [], o, w, c, t, fz, h => by
    have hid : (c.toList.mapIdx fun k x => if o ≤ k ∧ k < o + ([] : List Value).length then ([] : List Value).getD (k - o) undef else x) = c.toList := by
      apply List.ext_getElem?
      intro k
      rw [List.getElem?_mapIdx]
      cases hk : c.toList[k]? with
      | none => rfl
      | some x => simp; omega
    simp only [World.setCells, h, hid]
  | v :: r, o, w, c, t, fz, h => by
    have h1 : (w.setCell ⟨b, o, none⟩ v).heap[b]? = some (.cells (c.setIfInBounds o v) t fz) := by
      simp [World.setCell, Array.getElem?_modify, h]
    rw [World.setCells, setCells_heap b r (o + 1) _ _ t fz h1]
    congr 2
    congr 1
    apply List.ext_getElem?
    intro k
    rw [List.getElem?_mapIdx, List.getElem?_mapIdx, Array.toList_setIfInBounds, List.getElem?_set]
    by_cases hk : o = k
    · subst hk
      by_cases hlt : o < c.size
      · have hno : ¬ (o + 1 ≤ o ∧ o < o + 1 + r.length) := by omega
        simp [hlt, hno]
      · have : c.toList[o]? = none := List.getElem?_eq_none (by simpa using hlt)
        rw [this]
        simpa using hlt
    · rw [if_neg hk]
      cases hx : c.toList[k]? with
      | none => rfl
      | some x =>
        simp only [Option.map_some, Option.some.injEq, List.length_cons]
        by_cases h2 : o + 1 ≤ k ∧ k < o + 1 + r.length
        · rw [if_pos h2, if_pos (by omega)]
          obtain ⟨j, rfl⟩ : ∃ j, k = o + 1 + j := ⟨k - (o + 1), by omega⟩
          rw [show o + 1 + j - (o + 1) = j from by omega, show o + 1 + j - o = j + 1 from by omega]
          simp
        · rw [if_neg h2, if_neg (by omega)]

theorem setCells_other (b : Nat) : ∀ (vs : List Value) (o : Nat) (w : World) (k : Nat), k ≠ b → (w.setCells b o vs).heap[k]? = w.heap[k]?
  | [], _, _, _, _ => rfl
  | v :: r, o, w, k, h => by rw [World.setCells, setCells_other b r (o + 1) _ k h]; exact Below.heap_setCell w ⟨b, o, none⟩ v k h

theorem setCells_below {B : Nat → Prop} (b : Nat) (hb : ¬ B b) : ∀ (vs : List Value) (o : Nat) (w : World), Fr B w (w.setCells b o vs)
  | [], _, w => Fr.refl B w
  | v :: r, o, w => ((Fr.refl B w).setCell (p := ⟨b, o, none⟩) hb v).trans (setCells_below b hb r (o + 1) _)

theorem R.st (h : R B γ s w) {P : Program} {a : Addr} {vs : List Value} {s' : St} (hs : stL s a vs = some s') (hwf : ∀ v ∈ vs, Wf s.n v) :
    ∃ w', (storeCells (γ.at a) (vs.map (ren γ))).run P w = .ok () w' ∧ R B γ s' w' ∧ Fr B w w' ∧ s'.n = s.n := by
  unfold stL at hs
  split at hs
  · rename_i hc
    obtain ⟨hlv, hle, hone⟩ := hc
    injection hs with hs
    subst hs
    obtain ⟨c, fz, hb, hf, hsz, hcell⟩ := h.obj _ hlv
    have hrun := run_storeCells_cells (P := P) (γ.blk a.block) (γ.off a.block + a.off) (vs.map (ren γ)) 0 w
      (fun j hj => by
        rw [List.length_map] at hj
        rw [Nat.add_zero, Nat.add_assoc, h.cell hlv (by omega)]; rfl)
      (fun j hj => by
        rw [List.length_map] at hj
        rw [Nat.add_zero, Nat.add_assoc]; exact h.frozen hlv (by omega))
      (fun v hv => by
        obtain ⟨x, hx, rfl⟩ := List.mem_map.1 hv
        have hx1 := List.all_eq_true.1 hone x hx
        cases x with
        | agg c => exact absurd hx1 (by simp [Value.oneCell'])
        | tuple c => exact absurd hx1 (by simp [Value.oneCell'])
        | func fn f c => rw [ren_func]; rfl
        | pointer a => cases a <;> rfl
        | slice a l c => cases a <;> rfl
        | map a => cases a <;> rfl
        | _ => rfl)
    have hheap := setCells_heap (γ.blk a.block) (vs.map (ren γ)) (γ.off a.block + a.off) w c _ fz hb
    refine ⟨_, hrun, ?_, setCells_below _ (h.low _ hlv) _ _ _, rfl⟩
    rw [Nat.add_zero]
    have hlive : ∀ i, ((s.setO a.block { s.obj a.block with cells := put vs a.off (s.obj a.block).cells }).obj i).live = (s.obj i).live := by
      intro i; rw [setO_obj]; split <;> simp_all
    refine ⟨fun i hi => h.lt i (by rwa [hlive] at hi), fun i hi => ?_, fun i hi k hk => ?_, fun i hi ho => ?_, fun i j hi hj => h.inj i j (by rwa [hlive] at hi) (by rwa [hlive] at hj), fun i hi => h.low i (by rwa [hlive] at hi), fun k hk => Nat.lt_of_lt_of_le (h.bnd k hk) (setCells_below (B := B) _ (h.low _ hlv) _ _ _).size, h.m.keep (fun i hi => setCells_other _ _ _ _ _ (fun e => by have := h.m.obj i hi; rw [e, hb] at this; cases this)) rfl (Nat.le_refl _) (Ext.refl _ _)⟩
    · rw [hlive] at hi
      by_cases hia : i = a.block
      · subst hia
        rw [setO_obj, if_pos rfl]
        refine ⟨_, fz, hheap, ?_, by simpa using hsz, ?_⟩
        · rcases hf with hf | hf
          · left; exact ⟨by simpa using hf.1, hf.2⟩
          · exact Or.inr hf
        · intro k hk
          have hk' : k < (s.obj a.block).len := hk
          have h1 := hcell k hk'
          rw [put_get]
          rw [List.getElem?_toArray, List.getElem?_mapIdx]
          rw [← Array.getElem?_toList] at h1
          rw [h1]
          simp only [Option.map_some, List.length_map, Option.some.injEq]
          by_cases hr : a.off ≤ k ∧ k < a.off + vs.length
          · rw [if_pos (by omega), if_pos hr, show γ.off a.block + k - (γ.off a.block + a.off) = k - a.off from by omega]
            have : k - a.off < vs.length := by omega
            simp [List.getD, this]
          · rw [if_neg (by omega), if_neg hr]
      · rw [setO_obj, if_neg hia]
        obtain ⟨c', fz', hb', r⟩ := h.obj i hi
        refine ⟨c', fz', ?_, r⟩
        rw [setCells_other _ _ _ _ _ (fun e => hia (h.inj i _ hi hlv e))]
        exact hb'
    · rw [hlive] at hi
      show Wf s.n _
      by_cases hia : i = a.block
      · subst hia
        rw [setO_obj, if_pos rfl] at hk ⊢
        show Wf s.n (Tr.get undef (put vs a.off (s.obj a.block).cells) k)
        rw [put_get]
        split
        · rename_i hr
          have : k - a.off < vs.length := by omega
          exact hwf _ (by simp [List.getD, this])
        · exact h.wf _ hi k hk
      · rw [setO_obj, if_neg hia] at hk ⊢
        exact h.wf i hi k hk
    · rw [hlive] at hi
      refine h.cl i hi ?_
      rw [setO_obj] at ho
      split at ho <;> simp_all
  · cases hs
end
/-! new objects, killed ones, and what leaves the heap alone -/
def Gh.put (γ : Gh) (i b o e : Nat) : Gh := ⟨fun k => if k = i then b else γ.blk k, fun k => if k = i then o else γ.off k, fun k => if k = i then e else γ.ext k⟩
theorem Ext.put (γ : Gh) (n b o e : Nat) : Ext n γ (γ.put n b o e) :=
  ⟨fun i hi => by simp [Gh.put, Nat.ne_of_lt hi], fun i hi => by simp [Gh.put, Nat.ne_of_lt hi], fun i hi => by simp [Gh.put, Nat.ne_of_lt hi]⟩

section
variable {B : Nat → Prop} {γ : Gh} {s : St} {w w' : World}

theorem R.of_heap (h : R B γ s w) (hw : w'.heap = w.heap) : R B γ s w' :=
  ⟨h.lt, fun i hi => by rw [hw]; exact h.obj i hi, h.wf, h.cl, h.inj, h.low, by rw [hw]; exact h.bnd, h.m.keep (fun i hi => by rw [hw]) rfl (Nat.le_refl _) (Ext.refl _ _)⟩

theorem R.kill (h : R B γ s w) (i : Nat) : R B γ (s.setO i deadO) w := by
  have hl : ∀ j, ((s.setO i deadO).obj j).live = true → (s.obj j).live = true ∧ (s.setO i deadO).obj j = s.obj j := by
    intro j hj
    rw [setO_obj] at hj ⊢
    split at hj
    · exact absurd hj (by decide)
    · rename_i hne; exact ⟨hj, by rw [if_neg hne]⟩
  refine ⟨fun j hj => h.lt j (hl j hj).1, fun j hj => ?_, fun j hj k hk => ?_, fun j hj ho => ?_, fun j k hj hk => h.inj j k (hl j hj).1 (hl k hk).1, fun j hj => h.low j (hl j hj).1, h.bnd, h.m.keep (fun _ _ => rfl) rfl (Nat.le_refl _) (Ext.refl _ _)⟩
  · rw [(hl j hj).2]; exact h.obj j (hl j hj).1
  · rw [(hl j hj).2] at hk ⊢; exact h.wf j (hl j hj).1 k hk
  · rw [(hl j hj).2] at ho; exact h.cl j (hl j hj).1 ho

theorem R.more (h : R B γ s w) {elem : TypeId} {sz : Nat} {raw opn : Bool} {vs : List Value} {b o e : Nat} {c : Array Value} {fz : Nat × Nat}
    (hold : ∀ i, (s.obj i).live = true → w'.heap[γ.blk i]? = w.heap[γ.blk i]? ∧ γ.blk i ≠ b) (holdm : ∀ i, (s.mob i).live = true → w'.heap[γ.blk i]? = w.heap[γ.blk i]?)
    (hb : w'.heap[b]? = some (.cells c elem fz)) (hfz : (c.size ≤ fz.1 ∧ raw = false) ∨ fz = (0, 0)) (hsz : o + vs.length + e * sz = c.size)
    (hcell : ∀ k, k < vs.length → c[o + k]? = some (ren γ (vs.getD k undef))) (hwf : ∀ v ∈ vs, Wf s.n v) (hcl : opn = false → e = 0 ∧ o = 0)
    (hB : ¬ B b) (hw : ∀ k, B k → k < w'.heap.size) : R B (γ.put s.n b o e) (s.mkR raw elem sz opn vs) w' := by
  have hx := Ext.put γ s.n b o e
  have hn : (s.mkR raw elem sz opn vs).n = s.n + 1 := rfl
  have hcase : ∀ i, ((s.mkR raw elem sz opn vs).obj i).live = true → i = s.n ∨ (i < s.n ∧ (s.obj i).live = true) := by
    intro i hi
    rw [mkR_obj] at hi
    split at hi
    · rename_i he; exact Or.inl he
    · exact Or.inr ⟨h.lt i hi, hi⟩
  have hob : ∀ i, i < s.n → (s.mkR raw elem sz opn vs).obj i = s.obj i := by
    intro i hi; rw [mkR_obj, if_neg (by omega)]
  have hnew : (s.mkR raw elem sz opn vs).obj s.n = ⟨elem, sz, true, opn, vs.length, put vs 0 .leaf, raw⟩ := by rw [mkR_obj, if_pos rfl]
  have gb : (γ.put s.n b o e).blk s.n = b := by simp [Gh.put]
  have go : (γ.put s.n b o e).off s.n = o := by simp [Gh.put]
  have ge : (γ.put s.n b o e).ext s.n = e := by simp [Gh.put]
  refine ⟨fun i hi => ?_, fun i hi => ?_, fun i hi k hk => ?_, fun i hi ho => ?_, fun i j hi hj hij => ?_, fun i hi => ?_, hw, h.m.keep holdm rfl (Nat.le_succ _) hx⟩
  · rw [hn]; rcases hcase i hi with rfl | ⟨h1, _⟩ <;> omega
  · rcases hcase i hi with rfl | ⟨h1, h2⟩
    · rw [gb, go, ge, hnew]
      refine ⟨c, fz, hb, hfz, hsz, fun k hk => ?_⟩
      rw [hcell k hk, put_get, if_pos (by simp; exact hk), Nat.sub_zero]
      rw [ren_ext hx]
      have hk' : k < vs.length := hk
      exact hwf _ (by simp [List.getD, hk'])
    · rw [hob i h1, hx.blk i h1, hx.off i h1, hx.ext i h1, (hold i h2).1]
      obtain ⟨c', fz', q1, q2, q3, q4⟩ := h.obj i h2
      refine ⟨c', fz', q1, q2, q3, fun k hk => ?_⟩
      rw [q4 k hk, ren_ext hx _ (h.wf i h2 k hk)]
  · rw [hn]
    rcases hcase i hi with rfl | ⟨h1, h2⟩
    · rw [hnew] at hk ⊢
      have hk' : k < vs.length := hk
      show Wf _ (Tr.get undef (put vs 0 .leaf) k)
      rw [put_get, if_pos (by simp; exact hk'), Nat.sub_zero]
      exact Wf.mono (Nat.le_succ _) _ (hwf _ (by simp [List.getD, hk']))
    · rw [hob i h1] at hk ⊢
      exact Wf.mono (Nat.le_succ _) _ (h.wf i h2 k hk)
  · rcases hcase i hi with rfl | ⟨h1, h2⟩
    · rw [ge, go]; rw [hnew] at ho; exact hcl ho
    · rw [hx.ext i h1, hx.off i h1]; rw [hob i h1] at ho; exact h.cl i h2 ho
  · rcases hcase i hi with rfl | ⟨h1, h2⟩
    · rcases hcase j hj with rfl | ⟨k1, k2⟩
      · rfl
      · rw [gb, hx.blk j k1] at hij; exact absurd hij.symm (hold j k2).2
    · rcases hcase j hj with rfl | ⟨k1, k2⟩
      · rw [gb, hx.blk i h1] at hij; exact absurd hij (hold i h2).2
      · rw [hx.blk i h1, hx.blk j k1] at hij; exact h.inj i j h2 k2 hij
  · rcases hcase i hi with rfl | ⟨h1, h2⟩
    · rw [gb]; exact hB
    · rw [hx.blk i h1]; exact h.low i h2

theorem R.blk_lt (h : R B γ s w) {i : Nat} (hi : (s.obj i).live = true) : γ.blk i < w.heap.size := by
  obtain ⟨c, fz, hb, _⟩ := h.obj i hi
  rcases Nat.lt_or_ge (γ.blk i) w.heap.size with h1 | h1
  · exact h1
  · rw [Array.getElem?_eq_none h1] at hb; cases hb

theorem R.mblk_lt (h : R B γ s w) {i : Nat} (hi : (s.mob i).live = true) : γ.blk i < w.heap.size := by
  have hb := h.m.obj i hi
  rcases Nat.lt_or_ge (γ.blk i) w.heap.size with h1 | h1
  · exact h1
  · rw [Array.getElem?_eq_none h1] at hb; cases hb

/-- A new block behind the heap. -/
theorem R.alloc (h : R B γ s w) {elem : TypeId} {sz : Nat} {raw opn : Bool} {vs : List Value} {e : Nat} {c : Array Value} {fz : Nat × Nat}
    (hfz : fz = (0, 0)) (hsz : vs.length + e * sz = c.size)
    (hcell : ∀ k, k < vs.length → c[k]? = some (ren γ (vs.getD k undef))) (hwf : ∀ v ∈ vs, Wf s.n v) (hcl : opn = false → e = 0) :
    R B (γ.put s.n w.heap.size 0 e) (s.mkR raw elem sz opn vs) (w.alloc (.cells c elem fz)) := by
  refine h.more (b := w.heap.size) (o := 0) (c := c) (fz := fz) (fun i hi => ⟨Below.heap_alloc _ _ _ (h.blk_lt hi), Nat.ne_of_lt (h.blk_lt hi)⟩) (fun i hi => Below.heap_alloc _ _ _ (h.mblk_lt hi)) ?_ (Or.inr hfz) (by omega) (fun k hk => by rw [Nat.zero_add]; exact hcell k hk) hwf (fun ho => ⟨hcl ho, rfl⟩) (fun hq => Nat.lt_irrefl _ (h.bnd _ hq)) ?_
  · show (w.heap.push _)[w.heap.size]? = _
    simp
  · exact fun k hk => Nat.lt_of_lt_of_le (h.bnd k hk) (by simp)

theorem Fr.alloc' (B : Nat → Prop) (w : World) (hB : ∀ k, B k → k < w.heap.size) (o : Obj) : Fr B w (w.alloc o) := (Fr.refl B w).alloc hB o
end

/-! what a step of the machine that ends in a value does, held against the evaluator -/
def Sim (P : Program) (B : Nat → Prop) (γ : Gh) (s : St) (w : World) (m : Sem Value) (v : Value) (s' : St) : Prop :=
  ∃ γ' w', m.run P w = .ok (ren γ' v) w' ∧ Ext s.n γ γ' ∧ R B γ' s' w' ∧ Wf s'.n v ∧ Fr B w w' ∧ s.n ≤ s'.n

section
variable {P : Program} {B : Nat → Prop} {γ : Gh} {s : St} {w : World}
theorem Sim.same (h : R B γ s w) {m : Sem Value} {v : Value} (hr : m.run P w = .ok (ren γ v) w) (hv : Wf s.n v) : Sim P B γ s w m v s :=
  ⟨γ, w, hr, Ext.refl _ _, h, hv, Fr.refl _ _, Nat.le_refl _⟩

/-- A value without places. -/
def flat1 : Value → Bool
  | .bool _ => true
  | .int _ _ => true
  | .string _ => true
  | .pointer none => true
  | .slice none _ c => Nat.beq c 0
  | .map none => true
  | .nilFunc => true
  | .nilIface => true
  | _ => false
def flat (v : Value) : Bool := v.cells.toList.all flat1
theorem flat1_ren (γ : Gh) {v : Value} (h : flat1 v = true) : ren γ v = v := by
  cases v with
  | pointer a => cases a <;> first | rfl | simp [flat1] at h
  | slice a l c =>
    cases a with
    | none =>
      have hc : c = 0 := Nat.eq_of_beq_eq_true h
      subst hc; rfl
    | some a => simp [flat1] at h
  | map a => cases a <;> first | rfl | simp [flat1] at h
  | _ => first | rfl | simp [flat1] at h
theorem flat1_wf (n : Nat) {v : Value} (h : flat1 v = true) : Wf n v := by
  cases v with
  | pointer a => cases a <;> first | trivial | simp [flat1] at h
  | slice a l c =>
    cases a with
    | none => exact Or.inl (Nat.eq_of_beq_eq_true h)
    | some a => simp [flat1] at h
  | map a => cases a <;> first | trivial | simp [flat1] at h
  | _ => first | trivial | simp [flat1] at h
theorem flat1_one {v : Value} (h : flat1 v = true) : v.oneCell' = true := by
  cases v <;> first | rfl | simp [flat1] at h
theorem flat_wf (n : Nat) {v : Value} (h : flat v = true) : Wf n v := by
  unfold flat at h
  cases v with
  | agg c =>
    rw [Wf_agg]
    intro x hx
    exact flat1_wf n (List.all_eq_true.1 h x (by simpa [Value.cells] using hx))
  | _ => exact flat1_wf n (by simpa [Value.cells] using h)
theorem flat_ren (γ : Gh) {v : Value} (h : flat v = true) : ren γ v = v := by
  unfold flat at h
  cases v with
  | agg c =>
    rw [ren_agg]
    congr 1
    apply Array.ext'
    rw [Array.toList_map]
    have : c.toList.map (ren γ) = c.toList.map id := List.map_congr_left fun x hx => flat1_ren γ (List.all_eq_true.1 h x (by simpa [Value.cells] using hx))
    simpa using this
  | _ => exact flat1_ren γ (by simpa [Value.cells] using h)

/-- The new object with just these cells. -/
theorem Sim.new (h : R B γ s w) (elem : TypeId) (sz : Nat) (vs : List Value) (hwf : ∀ v ∈ vs, Wf s.n v) :
    ∃ γ' w', (newRow elem (vs.map (ren γ)).toArray).run P w = .ok ⟨γ'.blk s.n, γ'.off s.n, none⟩ w' ∧ γ'.ext s.n = 0 ∧ Ext s.n γ γ' ∧ R B γ' (s.mk' elem sz false vs) w' ∧ Fr B w w' := by
  refine ⟨γ.put s.n w.heap.size 0 0, w.alloc (.cells (vs.map (ren γ)).toArray elem), ?_, by simp [Gh.put], Ext.put _ _ _ _ _, ?_, Fr.alloc' _ _ h.bnd _⟩
  · simp [newRow, Gh.put]
  · refine h.alloc rfl (by simp) (fun k hk => ?_) hwf (fun _ => rfl)
    simp [hk]
end
/-! the operations, one by one -/
section
variable {P : Program} {B : Nat → Prop} {γ : Gh} {s : St} {w : World}

noncomputable def tsz (P : Program) (t : TypeId) : Option Nat := (P.info? t).map (·.size)
noncomputable def tz (P : Program) (t : TypeId) : Option Value := (P.info? t).bind (·.zero)
noncomputable def tag (P : Program) (t : TypeId) : Option Bool :=
  match P.underlying t with
  | some (.struct _) => some true
  | some (.array _ _) => some true
  | some _ => some false
  | none => none

theorem run_tsz {t : TypeId} {n : Nat} (h : tsz P t = some n) : (sizeOf t).run P w = .ok n w := by
  unfold tsz at h
  cases hi : P.info? t with
  | none => simp [hi] at h
  | some i => simp [hi] at h; simp [sizeOf, run_typeInfo w hi, h]
theorem run_tz {t : TypeId} {v : Value} (h : tz P t = some v) : (zeroValue t).run P w = .ok v w := by
  unfold tz at h
  cases hi : P.info? t with
  | none => simp [hi] at h
  | some i => simp [hi] at h; simp [zeroValue, run_typeInfo w hi, h]
theorem run_tag {t : TypeId} {b : Bool} (h : tag P t = some b) : (isAgg t).run P w = .ok b w := by
  unfold tag at h
  cases hu : P.underlying t with
  | none => simp [hu] at h
  | some d =>
    rw [hu] at h
    unfold isAgg
    rw [Sem.run_bind, run_underlying hu]
    cases d <;> simp_all

/-- A pointer to the newest object. -/
def ptr (s : St) : Value := .pointer (some ⟨s.n, 0, none⟩)

noncomputable def evAlloc (P : Program) (s : St) (elem : TypeId) : Option (Value × St) :=
  match tz P elem with
  | some z => if flat z = true then some (ptr s, s.mk' elem 0 false z.cells.toList) else none
  | none => none
theorem evAlloc_sim (h : R B γ s w) {elem : TypeId} {v : Value} {s' : St} (he : evAlloc P s elem = some (v, s')) :
    Sim P B γ s w (Instr.alloc elem true (.tuple #[])) v s' := by
  unfold evAlloc at he
  split at he
  · rename_i z hz
    split at he
    · rename_i hf
      injection he with he; injection he with h1 h2; subst h1 h2
      have hwf : ∀ v ∈ z.cells.toList, Wf s.n v := fun v hv => Wf_cells (flat_wf s.n hf) v (by simpa using hv)
      obtain ⟨γ', w', hr, _, hx, hR, hb⟩ := Sim.new (P := P) h elem 0 z.cells.toList hwf
      refine ⟨γ', w', ?_, hx, hR, Nat.lt_succ_self _, hb, Nat.le_succ _⟩
      have hc : (z.cells.toList.map (ren γ)).toArray = z.cells := by
        have := ren_cells γ z
        rw [flat_ren γ hf] at this
        apply Array.ext'
        simpa using (congrArg Array.toList this).symm
      rw [hc] at hr
      simp only [Instr.alloc, Sem.run_bind, run_tz hz, Result.andThen_ok, newVar, hr]
      rfl
    · cases he
  · cases he

noncomputable def evBox (s : St) (elem : TypeId) (x : Value) : Option (Value × St) :=
  some (ptr s, s.mk' elem 0 false x.cells.toList)
theorem evBox_sim (h : R B γ s w) {elem : TypeId} {x v : Value} {s' : St} (hx : Wf s.n x) (he : evBox s elem x = some (v, s')) :
    Sim P B γ s w (Instr.box elem (ren γ x)) v s' := by
  unfold evBox at he
  injection he with he; injection he with h1 h2; subst h1 h2
  obtain ⟨γ', w', hr, _, hx, hR, hb⟩ := Sim.new (P := P) h elem 0 x.cells.toList (fun v hv => Wf_cells hx v (by simpa using hv))
  refine ⟨γ', w', ?_, hx, hR, Nat.lt_succ_self _, hb, Nat.le_succ _⟩
  have hc : (x.cells.toList.map (ren γ)).toArray = (ren γ x).cells := by
    rw [ren_cells]; apply Array.ext'; simp
  rw [hc] at hr
  simp only [Instr.box, newVar, Sem.run_bind, hr, Result.andThen_ok]
  rfl

noncomputable def evLoad (P : Program) (s : St) (t : TypeId) (x : Value) : Option Value :=
  match x, tag P t with
  | .pointer (some a), some true =>
    match tsz P t with
    | some n => (ldL s a n).map fun l => .agg l.toArray
    | none => none
  | .pointer (some a), some false =>
    match ldL s a 1 with
    | some [v] => some v
    | _ => none
  | _, _ => none
theorem evLoad_run (h : R B γ s w) {t : TypeId} {x v : Value} (he : evLoad P s t x = some v) :
    (Instr.loadAt t (ren γ x)).run P w = .ok (ren γ v) w ∧ Wf s.n v := by
  unfold evLoad at he
  split at he
  · rename_i a ht
    split at he
    · rename_i n hn
      cases hl : ldL s a n with
      | none => simp [hl] at he
      | some l =>
        simp [hl] at he; subst he
        obtain ⟨hr, hwf, _⟩ := h.ld (P := P) hl
        refine ⟨?_, by rw [Wf_agg]; simpa using hwf⟩
        simp only [Instr.loadAt, ren, Instr.sureAddr, Sem.run_bind, Sem.run_pure, Result.andThen_ok, loadVar, run_tag ht, if_true, run_tsz hn, hr]
        simp [renL_eq]
    · cases he
  · rename_i a ht
    split at he
    · rename_i v' hl
      injection he with he; subst he
      obtain ⟨hr, hwf⟩ := h.load1 (P := P) hl
      refine ⟨?_, hwf⟩
      simp only [Instr.loadAt, ren, Instr.sureAddr, Sem.run_bind, Sem.run_pure, Result.andThen_ok, loadVar, run_tag ht, Bool.false_eq_true, if_false, hr]
    · cases he
  · cases he

noncomputable def evStore (P : Program) (s : St) (t : TypeId) (x v : Value) : Option St :=
  match x, tsz P t with
  | .pointer (some a), some n => if v.cells.size = n then stL s a v.cells.toList else none
  | _, _ => none
theorem evStore_run (h : R B γ s w) {t : TypeId} {x v : Value} {s' : St} (hv : Wf s.n v) (he : evStore P s t x v = some s') :
    ∃ w', (Instr.storeAt t (ren γ x) (ren γ v)).run P w = .ok () w' ∧ R B γ s' w' ∧ Fr B w w' ∧ s'.n = s.n := by
  unfold evStore at he
  split at he
  · rename_i a n hn
    split at he
    · rename_i hsz
      obtain ⟨w', hr, hR, hb, hn'⟩ := h.st (P := P) he (fun x hx => Wf_cells hv x (by simpa using hx))
      refine ⟨w', ?_, hR, hb, hn'⟩
      have hc : (ren γ v).cells.size = n := by rw [ren_cells]; simpa using hsz
      have hcl : (ren γ v).cells.toList = v.cells.toList.map (ren γ) := by rw [ren_cells]; simp
      simp [Instr.storeAt, ren, Instr.sureAddr, storeVar, run_tsz hn, hc, hcl, hr]
    · cases he
  · cases he

def evNil (x : Value) : Option Value :=
  match x with
  | .pointer (some a) => some (.pointer (some a))
  | .func (.func f) a b => some (.func (.func f) a b)
  | .iface t v => some (.iface t v)
  | _ => none

noncomputable def evField (P : Program) (t : TypeId) (x : Value) (f : Nat) : Option Value :=
  match P.underlying t, x with
  | some (.struct fields), .pointer (some a) =>
    match fields[f]? with
    | some fl => match tsz P fl.type with
      | some 0 => none
      | some (_ + 1) => some (.pointer (some ⟨a.block, a.off + fl.offset, none⟩))
      | none => none
    | none => none
  | _, _ => none
theorem evField_run {t : TypeId} {x v : Value} {f : Nat} (hx : Wf s.n x) (he : evField P t x f = some v) :
    (Instr.fieldAt t (ren γ x) f).run P w = .ok (ren γ v) w ∧ Wf s.n v := by
  unfold evField at he
  split at he
  · rename_i fields a hu
    split at he
    · rename_i fl hf
      split at he
      · cases he
      · rename_i n hn
        injection he with he; subst he
        refine ⟨?_, hx⟩
        simp only [Instr.fieldAt, Sem.run_bind, run_underlying hu, Result.andThen_ok, hf, ren, Instr.sureAddr, Sem.run_pure, fieldPlace, run_tsz hn]
        simp [add_mk, Gh.at, Nat.add_assoc]
      · cases he
    · cases he
  · cases he
end
section
variable {P : Program} {B : Nat → Prop} {γ : Gh} {s : St} {w : World}

noncomputable def evIndexAddr (P : Program) (t : TypeId) (x i : Value) : Option Value :=
  match P.underlying t, x, i with
  | some (.array len elem), .pointer (some a), .int _ j =>
    match tsz P elem with
    | some n => if 0 ≤ j ∧ j < (len : Int) then some (.pointer (some ⟨a.block, a.off + j.toNat * n, none⟩)) else none
    | none => none
  | some (.slice elem), .slice (some a) len _, .int _ j =>
    match tsz P elem with
    | some n => if 0 ≤ j ∧ j < (len : Int) then some (.pointer (some ⟨a.block, a.off + j.toNat * n, none⟩)) else none
    | none => none
  | _, _, _ => none
theorem evIndexAddr_run {t : TypeId} {x i v : Value} (hx : Wf s.n x) (he : evIndexAddr P t x i = some v) :
    (Instr.indexAt t (ren γ x) (ren γ i)).run P w = .ok (ren γ v) w ∧ Wf s.n v := by
  unfold evIndexAddr at he
  split at he
  · rename_i len elem a k j hu
    split at he
    · rename_i n hn
      split at he
      · rename_i hb
        injection he with he; subst he
        refine ⟨?_, hx⟩
        simp [Instr.indexAt, ren, asIntOf, run_underlying hu, Instr.sureAddr, hb, run_tsz hn, add_mk, Gh.at, Nat.add_assoc]
      · cases he
    · cases he
  · rename_i elem a len c k j hu
    split at he
    · rename_i n hn
      split at he
      · rename_i hb
        injection he with he; subst he
        refine ⟨?_, hx⟩
        simp [Instr.indexAt, ren, asIntOf, run_underlying hu, hb, run_tsz hn, add_mk, Gh.at, Nat.add_assoc]
      · cases he
    · cases he
  · cases he

/-- A part of an aggregate. -/
noncomputable def evPart (P : Program) (t : TypeId) (cs : Array Value) (off : Nat) : Option Value :=
  match tag P t with
  | some true => (tsz P t).map fun n => .agg (cs.extract off (off + n))
  | some false => cs[off]?
  | none => none
theorem evPart_run {t : TypeId} {cs : Array Value} {off : Nat} {v : Value} (hw : ∀ x ∈ cs, Wf s.n x) (he : evPart P t cs off = some v) :
    (part t (cs.map (ren γ)) off).run P w = .ok (ren γ v) w ∧ Wf s.n v := by
  unfold evPart at he
  split at he
  · rename_i ht
    cases hn : tsz P t with
    | none => simp [hn] at he
    | some n =>
      simp [hn] at he; subst he
      refine ⟨?_, ?_⟩
      · simp [part, run_tag ht, run_tsz hn, ren_agg, Array.map_extract]
      · rw [Wf_agg]
        intro x hx
        rw [Array.mem_extract_iff_getElem] at hx
        obtain ⟨k, hk, rfl⟩ := hx
        exact hw _ (by simp)
  · rename_i ht
    refine ⟨?_, hw _ (Array.mem_of_getElem? he)⟩
    simp [part, run_tag ht, he]
  · cases he

noncomputable def evFieldV (P : Program) (t : TypeId) (x : Value) (f : Nat) : Option Value :=
  match P.underlying t, x with
  | some (.struct fields), .agg cs =>
    match fields[f]? with
    | some fl => evPart P fl.type cs fl.offset
    | none => none
  | _, _ => none
theorem evFieldV_run {t : TypeId} {x v : Value} {f : Nat} (hx : Wf s.n x) (he : evFieldV P t x f = some v) :
    (Instr.field t (ren γ x) f).run P w = .ok (ren γ v) w ∧ Wf s.n v := by
  unfold evFieldV at he
  split at he
  · rename_i fields cs hu
    split at he
    · rename_i fl hf
      obtain ⟨hr, hw⟩ := evPart_run (P := P) (γ := γ) (w := w) ((Wf_agg _ _).1 hx) he
      refine ⟨?_, hw⟩
      rw [ren_agg]
      simp only [Instr.field, Sem.run_bind, run_underlying hu, Result.andThen_ok, hf, asAgg, Sem.run_pure, hr]
    · cases he
  · cases he

noncomputable def evIndex (P : Program) (t : TypeId) (x i : Value) : Option Value :=
  match P.underlying t, x, i with
  | some (.array len elem), .agg cs, .int _ j =>
    match tsz P elem with
    | some n => if 0 ≤ j ∧ j < (len : Int) then evPart P elem cs (j.toNat * n) else none
    | none => none
  | some .string, .string b, .int _ j =>
    if 0 ≤ j then (b.data.toList[j.toNat]?).map fun c => .int .u8 c.toNat else none
  | _, _, _ => none
theorem evIndex_run {t : TypeId} {x i v : Value} (hx : Wf s.n x) (he : evIndex P t x i = some v) :
    (Instr.index t (ren γ x) (ren γ i)).run P w = .ok (ren γ v) w ∧ Wf s.n v := by
  unfold evIndex at he
  split at he
  · rename_i len elem cs k j hu
    split at he
    · rename_i n hn
      split at he
      · rename_i hb
        obtain ⟨hr, hw⟩ := evPart_run (P := P) (γ := γ) (w := w) ((Wf_agg _ _).1 hx) he
        refine ⟨?_, hw⟩
        rw [ren_agg]
        simp [Instr.index, ren, asIntOf, run_underlying hu, hb, run_tsz hn, hr]
      · cases he
    · cases he
  · rename_i b k j hu
    split at he
    · rename_i hb
      cases hg : b.data.toList[j.toNat]? with
      | none => simp [hg] at he
      | some c =>
        simp [hg] at he; subst he
        have hg' : b[j.toNat]? = some c := by
          have hlt : j.toNat < b.data.toList.length := by
            rcases Nat.lt_or_ge j.toNat b.data.toList.length with h | h
            · exact h
            · rw [List.getElem?_eq_none h] at hg; cases hg
          have hs : j.toNat < b.data.size := by simpa using hlt
          rw [getElem?_pos b j.toNat (show j.toNat < b.size from hs)]
          rw [List.getElem?_eq_getElem hlt] at hg
          injection hg with hg
          rw [← hg]
          rfl
        refine ⟨?_, trivial⟩
        simp [Instr.index, ren, asIntOf, run_underlying hu, hb, hg']
    · cases he
  · cases he

def evExtract (x : Value) (i : Nat) : Option Value :=
  match x with
  | .tuple vs => vs[i]?
  | _ => none
theorem evExtract_run {x v : Value} {i : Nat} (hx : Wf s.n x) (he : evExtract x i = some v) :
    (Instr.extract (ren γ x) i).run P w = .ok (ren γ v) w ∧ Wf s.n v := by
  unfold evExtract at he
  split at he
  · rename_i vs
    refine ⟨?_, (Wf_tuple _ _).1 hx _ (Array.mem_of_getElem? he)⟩
    rw [ren_tuple]
    simp [Instr.extract, he]
  · cases he

noncomputable def evIface (P : Program) (t : TypeId) (x : Value) : Option Value :=
  match P.underlying t with
  | some (.interface _) => none
  | some _ => some (.iface t x)
  | none => none
theorem evIface_run {t : TypeId} {x v : Value} (hx : Wf s.n x) (he : evIface P t x = some v) :
    (Instr.makeInterface t (ren γ x)).run P w = .ok (ren γ v) w ∧ Wf s.n v := by
  unfold evIface at he
  split at he
  · cases he
  · rename_i d hni hd
    injection he with he; subst he
    refine ⟨?_, hx⟩
    unfold Instr.makeInterface
    rw [Sem.run_bind, run_underlying hd, Result.andThen_ok]
    cases d with
    | interface ms => exact (hni ms rfl).elim
    | _ => rfl
  · cases he

/-- The bounds of a slice: low, high. -/
def evBounds (len cap : Nat) (lo hi : Option Value) : Option (Nat × Nat) :=
  match (match hi with | none => some len | some (.int _ j) => if 0 ≤ j ∧ j ≤ (cap : Int) then some j.toNat else none | _ => none) with
  | some h => match lo with
    | none => some (0, h)
    | some (.int _ j) => if 0 ≤ j ∧ j ≤ (h : Int) then some (j.toNat, h) else none
    | _ => none
  | none => none
theorem evBounds_run {b : Bool} {len cap cap' : Nat} {lo hi : Option Value} {l h : Nat} (hc : cap ≤ cap') (he : evBounds len cap lo hi = some (l, h)) :
    (Instr.sliceBounds b len cap' (lo.map (ren γ)) (hi.map (ren γ)) none).run P w = .ok (l, h, cap') w := by
  unfold evBounds at he
  split at he
  · rename_i h' hh
    have hhi : (match hi.map (ren γ) with | some v => Instr.sliceBound v cap' (if b = true then .sliceAcap else .sliceAlen) | none => (pure len : Sem Nat)).run P w = .ok h' w := by
      split at hh
      · injection hh with hh; subst hh; rfl
      · split at hh
        · rename_i hb
          injection hh with hh; subst hh
          have : (_ : Int) ≤ (cap' : Int) := Int.le_trans hb.2 (by omega)
          simp [ren, Instr.sliceBound, asIntOf, hb.1, this]
        · cases hh
      · cases hh
    have hlo : (match lo.map (ren γ) with | some v => Instr.sliceBound v h' .sliceB | none => (pure 0 : Sem Nat)).run P w = .ok l w ∧ h' = h := by
      split at he
      · injection he with he; injection he with h1 h2; subst h1 h2; exact ⟨rfl, rfl⟩
      · split at he
        · rename_i hb
          injection he with he; injection he with h1 h2; subst h1 h2
          exact ⟨by simp [ren, Instr.sliceBound, asIntOf, hb], rfl⟩
        · cases he
      · cases he
    obtain ⟨hlo, rfl⟩ := hlo
    unfold Instr.sliceBounds
    simp only [pure_bind]
    have hlast : ∀ (l' : Nat) (m : Sem Nat), m.run P w = .ok l' w → (m >>= fun l => pure (l, h', cap') : Sem (Nat × Nat × Nat)).run P w = .ok (l', h', cap') w := by
      intro l' m hm; rw [Sem.run_bind, hm]; rfl
    cases hi with
    | none =>
      simp only [Option.map_none] at hhi ⊢
      have hlen : len = h' := by
        have : Result.ok len w = Result.ok h' w := hhi
        injection this
      subst hlen
      cases lo with
      | none => simp only [Option.map_none] at hlo ⊢; exact hlast l (pure 0) hlo
      | some v => simp only [Option.map_some] at hlo ⊢; exact hlast l _ hlo
    | some u =>
      simp only [Option.map_some] at hhi ⊢
      rw [Sem.run_bind, hhi, Result.andThen_ok]
      cases lo with
      | none => simp only [Option.map_none] at hlo ⊢; exact hlast l (pure 0) hlo
      | some v => simp only [Option.map_some] at hlo ⊢; exact hlast l _ hlo
  · cases he
end
section
variable {P : Program} {B : Nat → Prop} {γ : Gh} {s : St} {w : World}

/-- A number of its own for a slice without cells, of which nothing else is known. -/
theorem R.ghost (h : R B γ s w) (b o e : Nat) : R B (γ.put s.n b o e) ⟨s.n + 1, s.hp, s.mp⟩ w := by
  have hx := Ext.put γ s.n b o e
  have ho : ∀ i, (⟨s.n + 1, s.hp, s.mp⟩ : St).obj i = s.obj i := fun i => rfl
  refine ⟨fun i hi => Nat.lt_succ_of_lt (h.lt i hi), fun i hi => ?_, fun i hi k hk => Wf.mono (Nat.le_succ _) _ (h.wf i hi k hk), fun i hi hop => ?_, fun i j hi hj hij => ?_, fun i hi => ?_, h.bnd, h.m.keep (fun _ _ => rfl) rfl (Nat.le_succ _) hx⟩
  · have h1 := h.lt i hi
    rw [ho, hx.blk i h1, hx.off i h1, hx.ext i h1]
    obtain ⟨c, fz, q1, q2, q3, q4⟩ := h.obj i hi
    exact ⟨c, fz, q1, q2, q3, fun k hk => by rw [q4 k hk, ren_ext hx _ (h.wf i hi k hk)]⟩
  · rw [hx.ext i (h.lt i hi), hx.off i (h.lt i hi)]; exact h.cl i hi hop
  · rw [hx.blk i (h.lt i hi), hx.blk j (h.lt j hj)] at hij; exact h.inj i j hi hj hij
  · rw [hx.blk i (h.lt i hi)]; exact h.low i hi

noncomputable def evSlice (P : Program) (s : St) (t : TypeId) (x : Value) (lo hi : Option Value) : Option (Value × St) :=
  match P.underlying t, x with
  | some (.array n elem), .pointer (some a) =>
    match evBounds n n lo hi, tsz P elem with
    | some (l, h), some sz =>
      if (s.obj a.block).live = true ∧ (s.obj a.block).opn = false then
        some (.slice (some (if n = l then a else ⟨a.block, a.off + l * sz, none⟩)) (h - l) (n - l), s)
      else none
    | _, _ => none
  | some .string, .string b =>
    match evBounds b.data.toList.length b.data.toList.length lo hi with
    | some (l, h) => some (.string ⟨((b.data.toList.take h).drop l).toArray⟩, s)
    | none => none
  | some (.slice elem), .slice none len 0 =>
    match evBounds len 0 lo hi, tsz P elem with
    | some (l, h), some _ => some (.slice none (h - l) 0, s)
    | _, _ => none
  | some (.slice elem), .slice (some a) len cap =>
    match evBounds len cap lo hi, tsz P elem with
    | some (l, h), some sz =>
      if (s.obj a.block).live = true ∧ (s.obj a.block).opn = false then
        some (.slice (some (if cap = l then a else ⟨a.block, a.off + l * sz, none⟩)) (h - l) (cap - l), s)
      else if l < cap ∨ l = 0 then some (.slice (some ⟨a.block, a.off + l * sz, none⟩) (h - l) (cap - l), s)
      else if h = l ∧ l = cap ∧ a.off + l * sz < 4294967296 then some (.slice none 0 (1 + (a.block * 18446744073709551616 + (a.off * 4294967296 + (a.off + l * sz)))), s)
      else if h = l then some (.slice (some ⟨s.n, 0, none⟩) 0 0, ⟨s.n + 1, s.hp, s.mp⟩)
      else none
    | _, _ => none
  | _, _ => none

theorem evSlice_sim (hR : R B γ s w) {t : TypeId} {x v : Value} {lo hi : Option Value} {s' : St} (hx : Wf s.n x) (he : evSlice P s t x lo hi = some (v, s')) :
    Sim P B γ s w (Instr.sliceAt t (ren γ x) (lo.map (ren γ)) (hi.map (ren γ)) none) v s' := by
  unfold evSlice at he
  split at he
  · rename_i n elem a hu
    split at he
    · rename_i l h sz hb hsz
      split at he
      · rename_i hlv
        injection he with he; injection he with h1 h2; subst h1 h2
        have hext := (hR.cl _ hlv.1 hlv.2).1
        refine Sim.same hR ?_ ?_
        · have hbr := evBounds_run (P := P) (γ := γ) (w := w) (b := false) (Nat.le_refl n) hb
          simp only [Instr.sliceAt, Sem.run_bind, run_underlying hu, Result.andThen_ok, ren, Instr.sureAddr, Sem.run_pure, hbr, run_tsz hsz]
          split
          · simp [ren, hext]
          · simp [ren, hext, add_mk, Gh.at, Nat.add_assoc]
        · show Addr.block _ < _
          split <;> exact hx
      · cases he
    · cases he
  · rename_i b hu
    split at he
    · rename_i l h hb
      injection he with he; injection he with h1 h2; subst h1 h2
      refine Sim.same hR ?_ trivial
      have hbr := evBounds_run (P := P) (γ := γ) (w := w) (b := false) (Nat.le_refl b.data.toList.length) hb
      rw [show b.data.toList.length = b.size from (Array.length_toList : b.data.toList.length = b.data.size)] at hbr
      simp only [Instr.sliceAt, Instr.slice, Sem.run_bind, run_underlying hu, Result.andThen_ok, ren, Option.isSome_none, Bool.false_eq_true, if_false, hbr, Sem.run_pure]
      congr 2
      apply ByteArray.ext
      apply Array.ext'
      simp [ByteArray.data_extract, List.extract_eq_take_drop, List.drop_take]
    · cases he
  · rename_i elem len hu
    split at he
    · rename_i l h sz hb hsz
      injection he with he; injection he with h1 h2; subst h1 h2
      refine Sim.same hR ?_ (Or.inl rfl)
      have hbr := evBounds_run (P := P) (γ := γ) (w := w) (b := true) (Nat.le_refl 0) hb
      have ht : ren γ (.slice none len 0) = .slice none len 0 := rfl
      have ht' : ren γ (.slice none (h - l) 0) = .slice none (h - l) 0 := rfl
      rw [ht, ht']
      simp only [Instr.sliceAt, Instr.slice, Sem.run_bind, run_underlying hu, Result.andThen_ok, hbr, run_tsz hsz, Sem.run_pure]
      simp
    · cases he
  · rename_i elem a len cap hu
    split at he
    · rename_i l h sz hb hsz
      have hbr := evBounds_run (P := P) (γ := γ) (w := w) (b := true) (Nat.le_add_right cap (γ.ext a.block)) hb
      have hrun : (Instr.sliceAt t (ren γ (.slice (some a) len cap)) (lo.map (ren γ)) (hi.map (ren γ)) none).run P w =
          .ok (.slice (some (if cap + γ.ext a.block = l then γ.at a else (γ.at a).add (l * sz))) (h - l) (cap + γ.ext a.block - l)) w := by
        simp only [Instr.sliceAt, Instr.slice, Sem.run_bind, run_underlying hu, Result.andThen_ok, ren, hbr, run_tsz hsz, Sem.run_pure]
        split <;> simp
      split at he
      · rename_i hlv
        injection he with he; injection he with h1 h2; subst h1 h2
        have hext := (hR.cl _ hlv.1 hlv.2).1
        refine Sim.same hR ?_ ?_
        · rw [hrun, hext, Nat.add_zero]
          split
          · simp [ren, hext]
          · simp [ren, hext, add_mk, Gh.at, Nat.add_assoc]
        · show Addr.block _ < _
          split <;> exact hx
      · split at he
        · rename_i hl
          injection he with he; injection he with h1 h2; subst h1 h2
          refine Sim.same hR ?_ hx
          rw [hrun]
          rcases hl with hl | rfl
          · rw [if_neg (by omega), add_at]
            simp only [ren, Gh.at]
            congr 2
            · simp [Nat.add_assoc]
            · omega
          · have : (γ.at a).add (0 * sz) = γ.at a := by rw [Nat.zero_mul]; rfl
            rw [this]
            simp [ren, Gh.at]
        · split at he
          · rename_i hq
            obtain ⟨q1, q2, q3⟩ := hq
            injection he with he; injection he with h1 h2; subst h1 h2
            generalize hm : l * sz = m at q3 hrun ⊢
            have hB : tailB (1 + (a.block * 18446744073709551616 + (a.off * 4294967296 + (a.off + m)))) = a.block := by unfold tailB; omega
            have hO : tailO (1 + (a.block * 18446744073709551616 + (a.off * 4294967296 + (a.off + m)))) = a.off := by unfold tailO; omega
            have hK : tailK (1 + (a.block * 18446744073709551616 + (a.off * 4294967296 + (a.off + m)))) = a.off + m := by unfold tailK; omega
            refine Sim.same hR ?_ (Or.inr (by rw [hB]; exact hx))
            rw [hrun, q1, Nat.sub_self]
            have hne : ¬ (1 + (a.block * 18446744073709551616 + (a.off * 4294967296 + (a.off + m))) = 0) := by omega
            simp only [ren, tailA, tailC, if_neg hne, hB, hK, hO]
            have hext : cap + γ.ext a.block - l = γ.ext a.block := by omega
            rw [hext]
            by_cases he0 : γ.ext a.block = 0
            · rw [if_pos he0, if_pos (by omega)]; simp [Gh.at]
            · rw [if_neg he0, if_neg (by omega), add_at]; simp [Gh.at, Nat.add_assoc]
          split at he
          case isFalse => cases he
          rename_i hlen
          injection he with he; injection he with h1 h2; subst h1 h2
          refine ⟨γ.put s.n (γ.blk a.block) (if cap + γ.ext a.block = l then γ.off a.block + a.off else γ.off a.block + a.off + l * sz) (cap + γ.ext a.block - l), w, ?_, Ext.put _ _ _ _ _, hR.ghost _ _ _, Nat.lt_succ_self _, Fr.refl _ _, Nat.le_succ _⟩
          rw [hrun]
          rw [hlen, Nat.sub_self]
          simp only [ren, Gh.at, Gh.put, if_true, Nat.add_zero, Nat.zero_add]
          split
          · rfl
          · simp [add_mk]
    · cases he
  · cases he
/-- A slice with three bounds: what it yields is not looked into. -/
noncomputable def evSlice3 (P : Program) (s : St) (t : TypeId) (x : Value) (lo : Option Value) (hi mx : Value) : Option (Value × St) :=
  match P.underlying t, x, hi, mx with
  | some (.slice elem), .slice (some a) _ cap, .int _ j, .int _ m =>
    match (match lo with | none => some 0 | some (.int _ i) => if 0 ≤ i ∧ i ≤ j then some i.toNat else none | _ => none), tsz P elem with
    | some l, some _ => if 0 ≤ m ∧ m ≤ (cap : Int) ∧ 0 ≤ j ∧ j ≤ m then some (.slice (some ⟨s.n, 0, none⟩) (j.toNat - l) (m.toNat - l), ⟨s.n + 1, s.hp, s.mp⟩) else none
    | _, _ => none
  | _, _, _, _ => none
theorem evSlice3_sim (hR : R B γ s w) {t : TypeId} {x hi mx v : Value} {lo : Option Value} {s' : St} (he : evSlice3 P s t x lo hi mx = some (v, s')) :
    Sim P B γ s w (Instr.sliceAt t (ren γ x) (lo.map (ren γ)) (some (ren γ hi)) (some (ren γ mx))) v s' := by
  unfold evSlice3 at he
  split at he
  case h_2 => cases he
  rename_i elem a len cap k1 j k2 m hu
  split at he
  case h_2 => cases he
  rename_i l sz hl hsz
  split at he
  case isFalse => cases he
  rename_i hc
  obtain ⟨h0, hm, hj, hjm⟩ := hc
  injection he with he; injection he with h1 h2; subst h1 h2
  have hmc : m ≤ ((cap + γ.ext a.block : Nat) : Int) := by omega
  have hjm' : j ≤ ((m.toNat : Nat) : Int) := by omega
  have hb : (Instr.sliceBounds true len (cap + γ.ext a.block) (lo.map (ren γ)) (some (.int k1 j)) (some (.int k2 m))).run P w = .ok (l, j.toNat, m.toNat) w := by
    unfold Instr.sliceBounds
    simp only [pure_bind]
    have e1 : ∀ code, (Instr.sliceBound (.int k2 m) (cap + γ.ext a.block) code).run P w = .ok m.toNat w := by
      intro code
      simp only [Instr.sliceBound, asIntOf, pure_bind, if_pos (And.intro h0 hmc)]; rfl
    have e2 : ∀ code, (Instr.sliceBound (.int k1 j) m.toNat code).run P w = .ok j.toNat w := by
      intro code
      simp only [Instr.sliceBound, asIntOf, pure_bind, if_pos (And.intro hj hjm')]; rfl
    rw [Sem.run_bind, e1, Result.andThen_ok, Sem.run_bind, e2, Result.andThen_ok]
    cases lo with
    | none => cases hl; rfl
    | some u =>
      cases u with
      | int k3 i =>
        replace hl : (if 0 ≤ i ∧ i ≤ j then some i.toNat else none) = some l := hl
        have hi' : 0 ≤ i ∧ i ≤ j := by
          rcases Classical.em (0 ≤ i ∧ i ≤ j) with h | h
          · exact h
          · rw [if_neg h] at hl; cases hl
        rw [if_pos hi'] at hl
        cases hl
        have hij : i ≤ ((j.toNat : Nat) : Int) := by omega
        simp only [Option.map_some, ren, Instr.sliceBound, asIntOf, pure_bind, if_pos (And.intro hi'.1 hij)]; rfl
      | _ => cases hl
  refine ⟨γ.put s.n (γ.blk a.block) (if m.toNat = l then γ.off a.block + a.off else γ.off a.block + a.off + l * sz) 0, w, ?_, Ext.put _ _ _ _ _, hR.ghost _ _ _, Nat.lt_succ_self _, Fr.refl _ _, Nat.le_succ _⟩
  simp only [Instr.sliceAt, Instr.slice, Sem.run_bind, run_underlying hu, Result.andThen_ok, ren, hb, run_tsz hsz, Sem.run_pure]
  simp only [Gh.at, Gh.put, if_true, Nat.add_zero, Option.map_some]
  split
  · rfl
  · rw [show (⟨γ.blk a.block, γ.off a.block + a.off, none⟩ : Addr).add (l * sz) = ⟨γ.blk a.block, γ.off a.block + a.off + l * sz, none⟩ from add_mk _ _ _]
theorem evSlice3_n {t : TypeId} {x hi mx v : Value} {lo : Option Value} {s' : St} (he : evSlice3 P s t x lo hi mx = some (v, s')) : s'.n = s.n + 1 := by
  unfold evSlice3 at he
  split at he
  · split at he
    · split at he
      · injection he with he; injection he with h1 h2; subst h2; rfl
      · cases he
    · cases he
  · cases he
end
section
variable {P : Program} {B : Nat → Prop} {γ : Gh} {s : St} {w : World}

theorem foldl_set_map (f : Value → Value) (off : Nat) : ∀ (l : List (Value × Nat)) (cs : Array Value),
    (l.map fun x => (f x.1, x.2)).foldl (fun cs (x : Value × Nat) => cs.setIfInBounds (off + x.2) x.1) (cs.map f) =
      (l.foldl (fun cs (x : Value × Nat) => cs.setIfInBounds (off + x.2) x.1) cs).map f
  | [], cs => rfl
  | x :: l, cs => by
    simp only [List.map_cons, List.foldl_cons]
    rw [← foldl_set_map f off l]
    congr 1
    simp [Array.map_setIfInBounds]

theorem zipIdx_map' (f : Value → Value) (c : Array Value) : (c.map f).zipIdx.toList = c.zipIdx.toList.map fun x => (f x.1, x.2) := by
  apply List.ext_getElem?
  intro i
  simp [Array.toList_zipIdx, List.getElem?_zipIdx]
  cases c[i]? <;> rfl

theorem fill_ren (γ : Gh) (place : Nat → Option (Nat × Nat)) : ∀ (parts : List (Nat × Value)) (cells : Array Value),
    Instr.fill place (cells.map (ren γ)) (parts.map fun x => (x.1, ren γ x.2)) = (Instr.fill place cells parts).map (·.map (ren γ))
  | [], cells => rfl
  | (i, v) :: rest, cells => by
    simp only [List.map_cons, Instr.fill]
    cases hp : place i with
    | none => rfl
    | some p =>
      obtain ⟨off, size⟩ := p
      have hs : (ren γ v).cells.size = v.cells.size := by rw [ren_cells]; simp
      simp only [hs, Array.size_map]
      split
      · rfl
      · rw [← fill_ren γ place rest]
        congr 1
        rw [← Array.foldl_toList, ← Array.foldl_toList, ren_cells, zipIdx_map']
        exact foldl_set_map (ren γ) off _ _

theorem foldl_set_wf (n off : Nat) : ∀ (l : List (Value × Nat)) (cs : Array Value), (∀ x ∈ l, Wf n x.1) → (∀ x ∈ cs, Wf n x) →
    ∀ x ∈ l.foldl (fun cs (x : Value × Nat) => cs.setIfInBounds (off + x.2) x.1) cs, Wf n x
  | [], cs, _, h => h
  | x :: l, cs, hl, h => by
    simp only [List.foldl_cons]
    refine foldl_set_wf n off l _ (fun y hy => hl y (by simp [hy])) ?_
    intro y hy
    rcases Array.mem_or_eq_of_mem_setIfInBounds hy with h1 | h1
    · exact h y h1
    · rw [h1]; exact hl x (by simp)

theorem fill_wf (n : Nat) (place : Nat → Option (Nat × Nat)) : ∀ (parts : List (Nat × Value)) (cells out : Array Value), (∀ x ∈ parts, Wf n x.2) → (∀ x ∈ cells, Wf n x) →
    Instr.fill place cells parts = some out → ∀ x ∈ out, Wf n x
  | [], cells, out, _, h, he => by simp only [Instr.fill, Option.some.injEq] at he; subst he; exact h
  | (i, v) :: rest, cells, out, hp, h, he => by
    simp only [Instr.fill] at he
    cases hpl : place i with
    | none => simp [hpl] at he
    | some p =>
      obtain ⟨off, size⟩ := p
      simp only [hpl] at he
      split at he
      · cases he
      · refine fill_wf n place rest _ out (fun y hy => hp y (by simp [hy])) ?_ he
        rw [← Array.foldl_toList]
        refine foldl_set_wf n off _ _ ?_ h
        intro y hy
        have hv : Wf n v := hp (i, v) (by simp)
        have hm : y.1 ∈ v.cells := by
          obtain ⟨k, hk⟩ := List.mem_iff_getElem?.1 hy
          rw [Array.toList_zipIdx, List.getElem?_zipIdx] at hk
          cases hx : v.cells.toList[k]? with
          | none => simp [hx] at hk
          | some z =>
            rw [hx] at hk
            simp at hk
            rw [← hk]
            have := List.mem_of_getElem? hx
            simpa using this
        exact Wf_cells hv _ hm

noncomputable def evBuild (P : Program) (t : TypeId) (parts : List (Nat × Value)) : Option Value :=
  match tz P t with
  | some z => if flat z = true then (P.built t parts).map Value.agg else none
  | none => none
theorem evBuild_run {t : TypeId} {parts : Array (Nat × Value)} {v : Value} (hw : ∀ x ∈ parts, Wf s.n x.2) (he : evBuild P t parts.toList = some v) :
    (Instr.build t (parts.map fun x => (x.1, ren γ x.2))).run P w = .ok (ren γ v) w ∧ Wf s.n v := by
  unfold evBuild at he
  split at he
  · rename_i z hz
    split at he
    · rename_i hf
      cases hb : P.built t parts.toList with
      | none => simp [hb] at he
      | some cells =>
        simp [hb] at he; subst he
        have hzc : z.cells.map (ren γ) = z.cells := by rw [← ren_cells, flat_ren γ hf]
        have hzw : ∀ x ∈ z.cells, Wf s.n x := Wf_cells (flat_wf s.n hf)
        have hpw : ∀ x ∈ parts.toList, Wf s.n x.2 := fun x hx => hw x (by simpa using hx)
        have key : P.built t (parts.toList.map fun x => (x.1, ren γ x.2)) = some (cells.map (ren γ)) ∧ ∀ x ∈ cells, Wf s.n x := by
          unfold Program.built at hb ⊢
          unfold tz at hz
          cases hit : P.info? t with
          | none => simp [hit] at hz
          | some it =>
            simp [hit] at hz
            rw [hit] at hb
            cases hu : P.underlying t with
            | none => simp [hu] at hb
            | some d =>
              rw [hu] at hb
              cases d <;> first | (simp at hb; done) | skip
              case array n e =>
                cases hie : P.info? e with
                | none => simp [hie, hz] at hb
                | some ie =>
                  simp only [hie, hz] at hb ⊢
                  refine ⟨?_, fill_wf s.n _ _ _ _ hpw hzw hb⟩
                  have := fill_ren γ (fun i => some (i * ie.size, ie.size)) parts.toList z.cells
                  rw [hzc, hb] at this
                  exact this
              case struct fields =>
                cases hp : fields.toList.mapM (fun f => (P.info? f.type).map fun i => (f.offset, i.size)) with
                | none => simp [hp, hz] at hb
                | some places =>
                  simp only [hp, hz] at hb ⊢
                  refine ⟨?_, fill_wf s.n _ _ _ _ hpw hzw hb⟩
                  have := fill_ren γ (places.toArray[·]?) parts.toList z.cells
                  rw [hzc, hb] at this
                  exact this
        refine ⟨?_, (Wf_agg _ _).2 key.2⟩
        rw [ren_agg]
        exact run_build w t _ _ (by rw [Array.toList_map]; exact key.1)
    · cases he
  · cases he

/-- so many zero values, laid behind one another -/
noncomputable def zs (z : Value) (len : Nat) : List Value := (List.replicate len z.cells.toList).flatten
theorem zs_len (z : Value) (len : Nat) : (zs z len).length = len * z.cells.size := by
  unfold zs
  induction len with
  | zero => simp
  | succ n ih => rw [List.replicate_succ, List.flatten_cons, List.length_append, ih, Nat.succ_mul]; simp; omega
theorem zs_get (z : Value) (len : Nat) : ∀ k, k < len * z.cells.size → (zs z len)[k]? = z.cells[k % z.cells.size]? := by
  unfold zs
  induction len with
  | zero => intro k hk; simp at hk
  | succ n ih =>
    intro k hk
    rw [List.replicate_succ, List.flatten_cons]
    by_cases h : k < z.cells.size
    · rw [List.getElem?_append_left (by simpa using h), Nat.mod_eq_of_lt h]; simp
    · rw [List.getElem?_append_right (by simpa using Nat.le_of_not_lt h)]
      rw [Nat.succ_mul] at hk
      have h' : z.cells.size ≤ k := Nat.le_of_not_lt h
      rw [Array.length_toList, ih _ (by omega), ← Nat.mod_eq_sub_mod h']
theorem zs_eq (z : Value) (len size : Nat) (hz : z.cells.size = size) :
    (Array.range (len * size)).map (fun i => (if len * size = 0 then (#[] : Array Value) else z.cells)[i % (if len * size = 0 then (#[] : Array Value) else z.cells).size]!) = (zs z len).toArray := by
  subst hz
  apply Array.ext'
  apply List.ext_getElem?
  intro k
  by_cases hk : k < len * z.cells.size
  · have hpos : 0 < z.cells.size := by
      rcases Nat.eq_zero_or_pos z.cells.size with h | h
      · rw [h] at hk; simp at hk
      · exact h
    have hm : k % z.cells.size < z.cells.size := Nat.mod_lt _ hpos
    rw [show (zs z len).toArray.toList = zs z len from rfl, zs_get _ _ _ hk, if_neg (by omega)]
    simp [hk, hm]
  · have h1 : (zs z len)[k]? = none := List.getElem?_eq_none (by rw [zs_len]; omega)
    rw [show (zs z len).toArray.toList = zs z len from rfl, h1]
    simp [hk]
theorem zs_mem (z : Value) (len : Nat) : ∀ x ∈ zs z len, x ∈ z.cells := by
  intro x hx
  unfold zs at hx
  obtain ⟨l, hl, hx⟩ := List.mem_flatten.1 hx
  rw [List.eq_of_mem_replicate hl] at hx
  simpa using hx

theorem flat_map (γ : Gh) {z : Value} (hf : flat z = true) {l : List Value} (hl : ∀ x ∈ l, x ∈ z.cells) : l.map (ren γ) = l := by
  have : l.map (ren γ) = l.map id := List.map_congr_left fun x hx => flat1_ren γ (List.all_eq_true.1 hf x (by simpa using hl x hx))
  simpa using this

noncomputable def evBuildSlice (P : Program) (s : St) (t : TypeId) (len : Nat) (parts : List (Nat × Value)) : Option (Value × St) :=
  match P.underlying t with
  | some (.slice elem) =>
    match tsz P elem, tz P elem with
    | some size, some z =>
      if flat z = true ∧ z.cells.size = size ∧ len * size ≤ 16777216 then
        match Instr.fill (fun i => some (i * size, size)) (zs z len).toArray parts with
        | some cells => some (.slice (some ⟨s.n, 0, none⟩) len len, s.mk' elem size false cells.toList)
        | none => none
      else none
    | _, _ => none
  | _ => none
theorem evBuildSlice_sim (hR : R B γ s w) {t : TypeId} {len : Nat} {parts : Array (Nat × Value)} {v : Value} {s' : St} (hw : ∀ x ∈ parts, Wf s.n x.2)
    (he : evBuildSlice P s t len parts.toList = some (v, s')) : Sim P B γ s w (Instr.buildSlice t len (parts.map fun x => (x.1, ren γ x.2))) v s' := by
  unfold evBuildSlice at he
  split at he
  · rename_i elem hu
    split at he
    · rename_i size z hsz hz
      split at he
      · rename_i hc
        obtain ⟨hf, hzs, hle⟩ := hc
        split at he
        · rename_i cells hfill
          injection he with he; injection he with h1 h2; subst h1 h2
          have hpw : ∀ x ∈ parts.toList, Wf s.n x.2 := fun x hx => hw x (by simpa using hx)
          have hcw : ∀ x ∈ cells, Wf s.n x := fill_wf s.n _ _ _ _ hpw (fun x hx => Wf_cells (flat_wf s.n hf) x (zs_mem z len x (by simpa using hx))) hfill
          obtain ⟨γ', w', hr, hext, hx, hR', hb⟩ := Sim.new (P := P) hR elem size cells.toList (fun x hx => hcw x (by simpa using hx))
          have hfr := fill_ren γ (fun i => some (i * size, size)) parts.toList (zs z len).toArray
          have hzm : (zs z len).toArray.map (ren γ) = (zs z len).toArray := by
            apply Array.ext'
            rw [Array.toList_map]
            exact flat_map γ hf (zs_mem z len)
          rw [hzm, hfill] at hfr
          refine ⟨γ', w', ?_, hx, hR', Nat.lt_succ_self _, hb, Nat.le_succ _⟩
          unfold Instr.buildSlice
          have hgt : ¬ (len * size > 2 ^ 24) := by have : (2 : Nat) ^ 24 = 16777216 := by decide
                                                   omega
          have hcm : (cells.toList.map (ren γ)).toArray = cells.map (ren γ) := by apply Array.ext'; simp
          rw [hcm] at hr
          rw [Array.toList_map] 
          have hzq := zs_eq z len size hzs
          by_cases h0 : len * size = 0
          · simp only [if_pos h0] at hzq
            simp only [Sem.run_bind, run_underlying hu, Result.andThen_ok, run_tsz hsz, if_neg hgt, pure_bind, if_pos h0]
            rw [hzq, hfr]
            simp [hr, ren, Gh.at, hext]
          · simp only [if_neg h0] at hzq
            simp only [Sem.run_bind, run_underlying hu, Result.andThen_ok, run_tsz hsz, if_neg hgt, pure_bind, if_neg h0, run_tz hz]
            rw [hzq, hfr]
            simp [hr, ren, Gh.at, hext]
        · cases he
      · cases he
    · cases he
  · cases he
end
section
variable {P : Program} {B : Nat → Prop} {γ : Gh} {s : St} {w : World}

noncomputable def tby (P : Program) (t : TypeId) : Option Nat := (P.info? t).map (·.bytes)
theorem run_tby {t : TypeId} {n : Nat} (h : tby P t = some n) : ∃ i, P.info? t = some i ∧ i.bytes = n := by
  unfold tby at h
  cases hi : P.info? t with
  | none => simp [hi] at h
  | some i => exact ⟨i, rfl, by simpa [hi] using h⟩

noncomputable def evMakeSlice (P : Program) (s : St) (t : TypeId) (l c : Value) : Option (Value × St) :=
  match P.underlying t, l, c with
  | some (.slice elem), .int _ l, .int _ c =>
    match tsz P elem, tz P elem, tby P elem with
    | some size, some z, some by_ =>
      if flat z = true ∧ z.cells.size = size ∧ 0 ≤ l ∧ l ≤ c ∧ c ≤ 1099511627776 ∧ by_ * c.toNat ≤ 281474976710656 then
        some (.slice (some ⟨s.n, 0, none⟩) l.toNat c.toNat, s.mk' elem size false (zs z c.toNat))
      else none
    | _, _, _ => none
  | _, _, _ => none
theorem wrap_i64_small {n : Int} (h0 : 0 ≤ n) (h1 : n ≤ 1099511627776) : IntKind.i64.wrap n = n := by
  have h2 : ¬ n % 18446744073709551616 ≥ 9223372036854775808 := by omega
  simp [IntKind.wrap, IntKind.bits, IntKind.signed, h2]
  omega
theorem evMakeSlice_sim (hR : R B γ s w) {t : TypeId} {l c v : Value} {s' : St} (he : evMakeSlice P s t l c = some (v, s')) :
    Sim P B γ s w (Instr.makeSlice t (ren γ l) (ren γ c)) v s' := by
  unfold evMakeSlice at he
  split at he
  · rename_i elem k1 l k2 c hu
    split at he
    · rename_i size z by_ hsz hz hby
      split at he
      · rename_i hc
        obtain ⟨hf, hzs, h0, hlc, hc1, hcb⟩ := hc
        injection he with he; injection he with h1 h2; subst h1 h2
        obtain ⟨γ', w', hr, hext, hx, hR', hb⟩ := Sim.new (P := P) hR elem size (zs z c.toNat) (fun x hx => Wf_cells (flat_wf s.n hf) x (zs_mem z _ x hx))
        rw [flat_map γ hf (zs_mem z c.toNat)] at hr
        obtain ⟨i, hi, hib⟩ := run_tby hby
        have hwl : IntKind.i64.wrap l = l := wrap_i64_small h0 (by omega)
        have hwc : IntKind.i64.wrap c = c := wrap_i64_small (by omega) hc1
        refine ⟨γ', w', ?_, hx, hR', Nat.lt_succ_self _, hb, Nat.le_succ _⟩
        have hp : (2 : Int) ^ 48 = 281474976710656 := by decide
        have hcb' : (by_ : Int) * c ≤ 281474976710656 := by
          have h1 : ((by_ * c.toNat : Nat) : Int) ≤ ((281474976710656 : Nat) : Int) := Int.ofNat_le.2 hcb
          rw [Int.natCast_mul, Int.toNat_of_nonneg (by omega)] at h1
          exact h1
        have hzq := zs_eq z c.toNat size hzs
        have hbig : ¬ ((c < 0 ∨ (2 : Int) ^ 48 < (by_ : Int) * c) ∨ l < 0) ∧ ¬ c < l := by
          rw [hp]; omega
        have hd1 : (decide (c < 0) || decide (281474976710656 < (by_ : Int) * c)) = false := by simp; omega
        by_cases hn : c.toNat * size = 0
        · clear hzq
          simp only [Instr.makeSlice, ren, Sem.run_bind, run_underlying hu, Result.andThen_ok, asInt, asIntOf, Sem.run_pure, run_typeInfo w hi, hib, hwl, hwc]
          simp [hp, hd1, show ¬ l < 0 from by omega, show ¬ c < l from by omega, run_tsz hsz, hn]
          have he : (zs z c.toNat).toArray = #[] := by
            have : (zs z c.toNat) = [] := List.eq_nil_of_length_eq_zero (by rw [zs_len, hzs]; exact hn)
            rw [this]
          rw [he] at hr
          have e0 : ∀ f : Nat → Value, Array.map f (Array.range 0) = #[] := fun f => by apply Array.ext'; simp
          simp [e0, hr, ren, Gh.at, hext]
        · simp only [if_neg hn] at hzq
          simp only [Instr.makeSlice, ren, Sem.run_bind, run_underlying hu, Result.andThen_ok, asInt, asIntOf, Sem.run_pure, run_typeInfo w hi, hib, hwl, hwc]
          simp only [hp]
          simp [hd1, show ¬ l < 0 from by omega, show ¬ c < l from by omega, run_tsz hsz, run_tz hz]
          rw [if_neg hn, hzq, hr]
          simp [ren, Gh.at, hext]
      · cases he
    · cases he
  · cases he
end
section
variable {P : Program} {B : Nat → Prop} {γ : Gh} {s : St} {w : World}

/-- What is appended or copied: how many elements, and their cells. -/
noncomputable def evSrc (s : St) (sz : Nat) (y : Value) : Option (Nat × List Value) :=
  match y with
  | .slice none 0 _ => some (0, [])
  | .slice (some b) n _ => if n = 0 then some (0, []) else (ldL s b (n * sz)).map fun l => (n, l)
  | .string t => if sz = 1 then some (t.data.toList.length, t.data.toList.map fun b => .int .u8 b.toNat) else none
  | _ => none
theorem evSrc_run (hR : R B γ s w) {sz n : Nat} {y : Value} {l : List Value} (he : evSrc s sz y = some (n, l)) :
    (Builtin.lenOf (ren γ y)).run P w = .ok n w ∧ (Builtin.firstCells sz n (ren γ y)).run P w = .ok (l.map (ren γ)).toArray w ∧ (∀ v ∈ l, Wf s.n v) ∧ l.length = n * sz := by
  unfold evSrc at he
  split at he
  · rename_i c
    injection he with he; injection he with h1 h2; subst h1 h2
    refine ⟨rfl, ?_, by simp, by simp⟩
    simp only [ren]
    cases tailA γ c with
    | none => rfl
    | some b =>
      simp only [Builtin.firstCells, Nat.zero_mul]
      rfl
  · rename_i b m _
    split at he
    · rename_i hm
      injection he with he; injection he with h1 h2; subst h1 h2 hm
      refine ⟨rfl, ?_, by simp, by simp⟩
      simp only [ren, Builtin.firstCells, Nat.zero_mul]
      rfl
    · cases hl : ldL s b (m * sz) with
      | none => simp [hl] at he
      | some l' =>
        simp [hl] at he
        obtain ⟨h1, h2⟩ := he
        subst h1 h2
        obtain ⟨hr, hwf, hlen⟩ := hR.ld (P := P) hl
        exact ⟨rfl, by simpa only [ren, Builtin.firstCells] using hr, hwf, hlen⟩
  · rename_i t
    split at he
    · rename_i hs1
      injection he with he; injection he with h1 h2; subst h1 h2 hs1
      have hsz : t.data.toList.length = t.size := (Array.length_toList : t.data.toList.length = t.data.size)
      refine ⟨by simp only [ren, Builtin.lenOf]; rw [hsz]; rfl, ?_, ?_, by simp⟩
      · simp only [ren, Builtin.firstCells]
        have : (t.extract 0 t.data.toList.length).data = t.data := by
          rw [ByteArray.data_extract]
          simp
        rw [this]
        show Result.ok _ _ = Result.ok _ _
        congr 1
        apply Array.ext'
        simp [ren]
      · intro v hv
        simp only [List.mem_map] at hv
        obtain ⟨x, _, rfl⟩ := hv
        trivial
    · cases he
  · cases he

noncomputable def evGrow (P : Program) (raw : Bool) (s0 s : St) (elem : TypeId) (old new : List Value) (need : Nat) : Option (Value × St) :=
  match tsz P elem, tz P elem, tby P elem with
  | some sz, some z, some by_ =>
    if flat z = true ∧ z.cells.size = sz ∧ need ≤ 1099511627776 ∧ (2 * need + 1000) * by_ ≤ 281474976710656 ∧ old.length + new.length = need * sz then
      some (.slice (some ⟨s0.n, 0, none⟩) need need, s0.mkR raw elem sz true (old ++ new))
    else none
  | _, _, _ => none

noncomputable def evAppend (P : Program) (s : St) (sT : TypeId) (x y : Value) : Option (Value × St) :=
  match P.underlying sT with
  | some (.slice elem) =>
    match tsz P elem with
    | some sz =>
      match evSrc s sz y with
      | some (n, new) =>
        match x with
        | .slice none 0 0 => if n = 0 then some (.slice none 0 0, s) else evGrow P true s s elem [] new n
        | .slice (some a) l c =>
          if l + n ≤ c then (stL s ⟨a.block, a.off + l * sz, none⟩ new).map fun s' => (.slice (some a) (l + n) c, s')
          else match ldL s a (l * sz) with
            | some old =>
              if (s.obj a.block).opn = false then evGrow P true s s elem old new (l + n)
              else if (s.obj a.block).sz = sz ∧ (s.obj a.block).elem = elem ∧ a.off + c * sz = (s.obj a.block).len ∧ new.all (·.oneCell') = true then evGrow P (s.obj a.block).raw (s.setO a.block deadO) s elem old new (l + n)
              else none
            | none => none
        | _ => none
      | none => none
    | none => none
  | _ => none

theorem zeroCells_size (z : Array Value) (n : Nat) : (Builtin.zeroCells z n).size = n * z.size := by simp [Builtin.zeroCells]

theorem getD_some {l : List Value} {k : Nat} (h : k < l.length) : l[k]? = some (l.getD k undef) := by
  rw [List.getD, List.getElem?_eq_getElem h]; rfl

/-- The model's append where there is no room: the row that it makes. -/
theorem run_append_grow {argTypes : Array TypeId} {sT xT elem : TypeId} {d : TypeDesc} {ty : TypeId} {base : Option Addr} {l c n sz by_ : Nat} {y z : Value} {old new : Array Value}
    (h0 : argTypes[0]? = some sT) (h1 : argTypes[1]? = some xT) (hx : P.underlying xT = some d) (hd : ∀ k, d ≠ .int k) (hu : P.underlying sT = some (.slice elem))
    (hsz : tsz P elem = some sz) (hz : tz P elem = some z) (hby : tby P elem = some by_)
    (hlen : (Builtin.lenOf y).run P w = .ok n w) (hnew : (Builtin.firstCells sz n y).run P w.drew = .ok new w.drew) (hold : (Builtin.firstCells sz l (.slice base l c)).run P w.drew = .ok old w.drew)
    (hroom : c < l + n) (hneed : l + n ≤ 1099511627776) (hb : (2 * (l + n) + 1000) * by_ ≤ 281474976710656) :
    ∃ cap, l + n ≤ cap ∧ (Builtin.append_ argTypes ty #[.slice base l c, y]).run P w = .ok (.slice (some ⟨w.heap.size, 0, none⟩) (l + n) cap) (w.drew.alloc (.cells (old ++ new ++ Builtin.zeroCells z.cells (cap - (l + n))) elem)) := by
  obtain ⟨i, hi, hib⟩ := run_tby hby
  have hmatch : (match d with | .int _ => true | _ => false) = false := by cases d <;> first | rfl | exact absurd rfl (hd _)
  have hn : ¬ (l + n ≤ c) := by omega
  have h63' : ¬ (9223372036854775807 < ((l : Int) + (n : Int))) := by omega
  have h48' : ¬ (281474976710656 < Builtin.nextslicecap (l + n) c * i.bytes) := by
    have h1 := nextslicecap_le hroom
    have h2 : Builtin.nextslicecap (l + n) c * by_ ≤ (2 * (l + n)) * by_ := Nat.mul_le_mul_right _ h1
    have h3 : (2 * (l + n)) * by_ ≤ (2 * (l + n) + 1000) * by_ := Nat.mul_le_mul_right _ (by omega)
    rw [hib]; omega
  refine ⟨grownCap w (l + n) c elem, ?_, ?_⟩
  · simp [grownCap, Question.cut]
  have hsz' := fun w => run_tsz (P := P) (w := w) hsz
  have hz' := fun w => run_tz (P := P) (w := w) hz
  unfold Builtin.append_
  simp only [h0, h1, pure_bind]
  simp [run_underlying hu, run_underlying hx, hsz', run_typeInfo w hi, run_typeInfo w.drew hi, hlen, hn, h63', h48', Question.forced, hnew, hold, hz', newRow, grownCap]

theorem run_append_room {argTypes : Array TypeId} {sT xT elem : TypeId} {d : TypeDesc} {ty : TypeId} {a : Addr} {l c n sz : Nat} {y : Value} {new : Array Value} {w' : World}
    (h0 : argTypes[0]? = some sT) (h1 : argTypes[1]? = some xT) (hx : P.underlying xT = some d) (hd : ∀ k, d ≠ .int k) (hu : P.underlying sT = some (.slice elem))
    (hsz : tsz P elem = some sz)
    (hlen : (Builtin.lenOf y).run P w = .ok n w) (hnew : (Builtin.firstCells sz n y).run P w = .ok new w)
    (hroom : l + n ≤ c) (hst : (storeCells (a.add (l * sz)) new.toList).run P w = .ok () w') :
    (Builtin.append_ argTypes ty #[.slice (some a) l c, y]).run P w = .ok (.slice (some a) (l + n) c) w' := by
  unfold Builtin.append_
  simp only [h0, h1, pure_bind]
  simp [run_underlying hu, run_underlying hx, run_tsz hsz, hlen, hroom, hnew, hst]

theorem run_append_none {argTypes : Array TypeId} {sT xT elem : TypeId} {d : TypeDesc} {ty : TypeId} {sz : Nat} {y : Value} {new : Array Value}
    (h0 : argTypes[0]? = some sT) (h1 : argTypes[1]? = some xT) (hx : P.underlying xT = some d) (hd : ∀ k, d ≠ .int k) (hu : P.underlying sT = some (.slice elem))
    (hsz : tsz P elem = some sz)
    (hlen : (Builtin.lenOf y).run P w = .ok 0 w) (hnew : (Builtin.firstCells sz 0 y).run P w = .ok new w) :
    (Builtin.append_ argTypes ty #[.slice none 0 0, y]).run P w = .ok (.slice none 0 0) w := by
  unfold Builtin.append_
  simp only [h0, h1, pure_bind]
  simp [run_underlying hu, run_underlying hx, run_tsz hsz, hlen, hnew]

theorem evGrow_sim {raw : Bool} {s0 : St} (hR : R B γ s0 w) (hs0 : s0.n = s.n) {argTypes : Array TypeId} {sT xT elem : TypeId} {d : TypeDesc} {ty : TypeId} {base : Option Addr} {l c n : Nat} {y v : Value} {old new : List Value} {s' : St}
    (h0 : argTypes[0]? = some sT) (h1 : argTypes[1]? = some xT) (hx : P.underlying xT = some d) (hd : ∀ k, d ≠ .int k) (hu : P.underlying sT = some (.slice elem))
    (hwo : ∀ v ∈ old, Wf s.n v) (hwn : ∀ v ∈ new, Wf s.n v) {sz : Nat} (hsz : tsz P elem = some sz)
    (hlen : (Builtin.lenOf y).run P w = .ok n w) (hnew : (Builtin.firstCells sz n y).run P w.drew = .ok (new.map (ren γ)).toArray w.drew)
    (hold : (Builtin.firstCells sz l (.slice base l c)).run P w.drew = .ok (old.map (ren γ)).toArray w.drew)
    (hroom : c < l + n) (he : evGrow P raw s0 s elem old new (l + n) = some (v, s')) :
    Sim P B γ s w (Builtin.append_ argTypes ty #[.slice base l c, y]) v s' := by
  unfold evGrow at he
  split at he
  · rename_i sz' z by_ hsz' hz hby
    rw [hsz] at hsz'; injection hsz' with hsz'; subst hsz'
    split at he
    · rename_i hc
      obtain ⟨hf, hzs, hneed, hb, hlens⟩ := hc
      injection he with he; injection he with h1' h2'; subst h1' h2'
      obtain ⟨cap, hcap, hrun⟩ := run_append_grow (P := P) (ty := ty) h0 h1 hx hd hu hsz hz hby hlen hnew hold hroom hneed hb
      have hR2 : R B γ s0 w.drew := hR.of_heap rfl
      have hwf : ∀ v ∈ old ++ new, Wf s0.n v := by
        rw [hs0]
        intro v hv
        rcases List.mem_append.1 hv with h | h
        · exact hwo v h
        · exact hwn v h
      have hR3 := hR2.alloc (raw := raw) (elem := elem) (sz := sz) (opn := true) (vs := old ++ new) (e := cap - (l + n))
        (c := (old.map (ren γ)).toArray ++ (new.map (ren γ)).toArray ++ Builtin.zeroCells z.cells (cap - (l + n))) (fz := (0, 0)) rfl
        (by simp [zeroCells_size, hzs]) (fun k hk => by
          have hk' : k < ((old.map (ren γ)).toArray ++ (new.map (ren γ)).toArray).size := by simpa using hk
          rw [Array.getElem?_append_left hk', ← Array.getElem?_toList]
          simp only [Array.toList_append, ← List.map_append, List.getElem?_map]
          rw [getD_some hk]; rfl) hwf (fun h => by cases h)
      rw [show s0.n = s.n from hs0] at hR3 ⊢
      refine ⟨γ.put s.n w.heap.size 0 (cap - (l + n)), _, ?_, Ext.put _ _ _ _ _, hR3, ?_, ?_, ?_⟩
      · rw [hrun]
        simp [ren, Gh.at, Gh.put]
        omega
      · show s.n < s0.n + 1
        omega
      · exact (Fr.refl B w).drew.alloc hR2.bnd _
      · show s.n ≤ s0.n + 1
        omega
    · cases he
  · cases he
end
section
variable {P : Program} {B : Nat → Prop} {γ : Gh} {s : St} {w : World}

theorem evAppend_sim (hR : R B γ s w) {argTypes : Array TypeId} {sT xT : TypeId} {d : TypeDesc} {ty : TypeId} {x y v : Value} {s' : St}
    (h0 : argTypes[0]? = some sT) (h1 : argTypes[1]? = some xT) (hxd : P.underlying xT = some d) (hd : ∀ k, d ≠ .int k)
    (hx : Wf s.n x) (he : evAppend P s sT x y = some (v, s')) :
    Sim P B γ s w (Builtin.append_ argTypes ty #[ren γ x, ren γ y]) v s' := by
  unfold evAppend at he
  split at he
  · rename_i elem hu
    split at he
    · rename_i sz hsz
      split at he
      · rename_i n new hsrc
        obtain ⟨hlen, hnew, hwn, hnl⟩ := evSrc_run (P := P) hR hsrc
        have hR2 : R B γ s w.drew := hR.of_heap rfl
        obtain ⟨_, hnewD, _, _⟩ := evSrc_run (P := P) hR2 hsrc
        split at he
        · split at he
          · rename_i hn
            injection he with he; injection he with h1' h2'; subst h1' h2' hn
            refine Sim.same hR ?_ (Or.inl rfl)
            exact run_append_none h0 h1 hxd hd hu hsz hlen hnew
          · rename_i hn
            have hold : (Builtin.firstCells sz 0 (.slice none 0 0)).run P w.drew = .ok (([] : List Value).map (ren γ)).toArray w.drew := rfl
            rw [← Nat.zero_add n] at he
            show Sim P B γ s w (Builtin.append_ argTypes ty #[.slice none 0 0, ren γ y]) v s'
            exact evGrow_sim hR rfl h0 h1 hxd hd hu (by simp) hwn hsz hlen hnewD hold (by omega) he
        · rename_i a l c
          split at he
          · rename_i hroom
            cases hst : stL s ⟨a.block, a.off + l * sz, none⟩ new with
            | none => simp [hst] at he
            | some s2 =>
              simp [hst] at he
              obtain ⟨h1', h2'⟩ := he; subst h1' h2'
              obtain ⟨w', hrun, hR', hb, hn'⟩ := hR.st (P := P) hst hwn
              have hadd : γ.at ⟨a.block, a.off + l * sz, none⟩ = (γ.at a).add (l * sz) := by rw [add_at]; simp [Gh.at, Nat.add_assoc]
              rw [hadd] at hrun
              refine ⟨γ, w', ?_, Ext.refl _ _, hR', by rw [hn']; exact hx, hb, Nat.le_of_eq hn'.symm⟩
              have := run_append_room (P := P) (ty := ty) (c := c + γ.ext a.block) h0 h1 hxd hd hu hsz hlen hnew (show l + n ≤ c + γ.ext a.block by omega) (by simpa using hrun)
              simpa only [ren] using this
          · rename_i hroom
            split at he
            · rename_i old hold
              obtain ⟨hro, hwo, hol⟩ := hR.ld (P := P) hold
              obtain ⟨hroD, _, _⟩ := hR2.ld (P := P) hold
              have hfo : ∀ c', (Builtin.firstCells sz l (.slice (some (γ.at a)) l c')).run P w.drew = .ok (old.map (ren γ)).toArray w.drew := fun c' => by
                simpa only [Builtin.firstCells] using hroD
              have hlive : (s.obj a.block).live = true := by
                unfold ldL at hold
                split at hold
                · rename_i hc; exact hc.1
                · cases hold
              split at he
              · rename_i hop
                have hext := (hR.cl _ hlive hop).1
                have := evGrow_sim (ty := ty) (base := some (γ.at a)) (l := l) (c := c) hR rfl h0 h1 hxd hd hu hwo hwn hsz hlen hnewD (hfo c) (by omega) he
                simpa only [ren, hext, Nat.add_zero] using this
              · split at he
                · rename_i hc
                  obtain ⟨hosz, hoel, hend, hone⟩ := hc
                  by_cases hroom' : l + n ≤ c + γ.ext a.block
                  · -- in place: the new object lies where the old one lay
                    unfold evGrow at he
                    split at he
                    · rename_i sz' z by_ hsz' hz hby
                      rw [hsz] at hsz'; injection hsz' with hsz'; subst hsz'
                      split at he
                      · rename_i hc2
                        obtain ⟨hf, hzs, hneed, hb, hlens⟩ := hc2
                        injection he with he; injection he with h1' h2'; subst h1' h2'
                        obtain ⟨cc, fz, hblk, hfz, hsize, hcell⟩ := hR.obj _ hlive
                        have hfro : ∀ k, k < cc.size → w.frozen? ⟨γ.blk a.block, k, none⟩ = false := by
                          intro k hk
                          simp only [World.frozen?, hblk]
                          rcases hfz with ⟨h, _⟩ | rfl
                          · simp; omega
                          · simp
                        have hce : ∀ k, k < cc.size → (w.cell? ⟨γ.blk a.block, k, none⟩).isSome = true := by
                          intro k hk
                          simp [World.cell?, hblk, hk]
                        have hcl : c * sz + γ.ext a.block * sz = (c + γ.ext a.block) * sz := by rw [Nat.add_mul]
                        have hle : (l + n) * sz ≤ (c + γ.ext a.block) * sz := Nat.mul_le_mul_right _ hroom'
                        have hln : (l + n) * sz = l * sz + n * sz := by rw [Nat.add_mul]
                        rw [hosz] at hsize
                        have hfit : γ.off a.block + a.off + l * sz + new.length ≤ cc.size := by rw [hnl]; omega
                        have hst := run_storeCells_cells (P := P) (γ.blk a.block) (γ.off a.block + a.off + l * sz) (new.map (ren γ)) 0 w
                          (fun j hj => hce _ (by rw [List.length_map] at hj; omega))
                          (fun j hj => hfro _ (by rw [List.length_map] at hj; omega))
                          (fun v hv => by
                            obtain ⟨x, hx, rfl⟩ := List.mem_map.1 hv
                            have hx1 := List.all_eq_true.1 hone x hx
                            cases x with
                            | agg c => exact absurd hx1 (by simp [Value.oneCell'])
                            | tuple c => exact absurd hx1 (by simp [Value.oneCell'])
                            | func fn f c => rw [ren_func]; rfl
                            | pointer a => cases a <;> rfl
                            | slice a l c => cases a <;> rfl
                            | map a => cases a <;> rfl
                            | _ => rfl)
                        rw [Nat.add_zero] at hst
                        have hheap := setCells_heap (γ.blk a.block) (new.map (ren γ)) (γ.off a.block + a.off + l * sz) w cc _ fz hblk
                        have hrun := run_append_room (P := P) (ty := ty) (a := γ.at a) (c := c + γ.ext a.block) h0 h1 hxd hd hu hsz hlen hnew hroom' (by rw [add_at]; simpa using hst)
                        have hRk := hR.kill a.block
                        have hR3 := hRk.more (w' := w.setCells (γ.blk a.block) (γ.off a.block + a.off + l * sz) (new.map (ren γ))) (elem := elem) (sz := sz) (raw := (s.obj a.block).raw) (opn := true) (vs := old ++ new)
                          (b := γ.blk a.block) (o := γ.off a.block + a.off) (e := c + γ.ext a.block - (l + n)) (fz := fz)
                          (fun i hi => by
                            rw [setO_obj] at hi
                            split at hi
                            · exact absurd hi (by decide)
                            · rename_i hne
                              have hbne : γ.blk i ≠ γ.blk a.block := fun e => hne (hR.inj i _ hi hlive e)
                              exact ⟨setCells_other _ _ _ _ _ hbne, hbne⟩)
                          (fun i hi => setCells_other _ _ _ _ _ (fun e => by have := hR.m.obj i hi; rw [e, hblk] at this; cases this))
                          (by rw [hoel] at hheap; exact hheap) (by simpa using hfz)
                          (by
                            have hq : (c + γ.ext a.block - (l + n)) * sz + (l + n) * sz = (c + γ.ext a.block) * sz := by rw [← Nat.add_mul, Nat.sub_add_cancel hroom']
                            simp only [List.length_append, List.size_toArray, List.length_mapIdx, Array.length_toList]
                            omega)
                          (fun k hk => by
                            have hk2 : k < old.length + new.length := by simpa using hk
                            rw [List.getElem?_toArray, List.getElem?_mapIdx]
                            by_cases hko : k < old.length
                            · have hcq : cc.toList[γ.off a.block + a.off + k]? = some (ren γ (old.getD k undef)) := by
                                have h1 := hcell (a.off + k) (by
                                  unfold ldL at hold
                                  split at hold
                                  · rename_i hcc; rw [hol] at hko; omega
                                  · cases hold)
                                rw [Array.getElem?_toList, Nat.add_assoc, h1]
                                unfold ldL at hold
                                split at hold
                                · injection hold with hold
                                  have : old[k]? = some (Tr.get undef (s.obj a.block).cells (a.off + k)) := by
                                    rw [← hold, cut_get, if_pos (by rw [hol] at hko; exact hko)]
                                  rw [List.getD, this]; rfl
                                · cases hold
                              rw [hcq]
                              simp only [Option.map_some]
                              rw [if_neg (by rw [hol] at hko; omega)]
                              rw [List.getD, List.getD, List.getElem?_append_left hko]
                            · have hlt : γ.off a.block + a.off + k < cc.toList.length := by rw [Array.length_toList]; rw [hol] at hko hk2; omega
                              rw [List.getElem?_eq_getElem hlt]
                              simp only [Option.map_some, List.length_map]
                              rw [if_pos (by rw [hol] at hko hk2; omega)]
                              have hkk : γ.off a.block + a.off + k - (γ.off a.block + a.off + l * sz) = k - old.length := by rw [hol]; omega
                              have hkn : k - old.length < new.length := by omega
                              rw [hkk, List.getD, List.getD, List.getElem?_append_right (by omega), List.getElem?_map, List.getElem?_eq_getElem hkn]
                              rfl)
                          (fun v hv => by
                            rcases List.mem_append.1 hv with h | h
                            · exact hwo v h
                            · exact hwn v h)
                          (fun h => by cases h) (hR.low _ hlive) (fun k hk => Nat.lt_of_lt_of_le (hR.bnd k hk) (setCells_below (B := B) _ (hR.low _ hlive) _ _ _).size)
                        refine ⟨γ.put s.n (γ.blk a.block) (γ.off a.block + a.off) (c + γ.ext a.block - (l + n)), _, ?_, Ext.put _ _ _ _ _, hR3, Nat.lt_succ_self _, setCells_below _ (hR.low _ hlive) _ _ _, Nat.le_succ _⟩
                        simp only [ren]
                        rw [hrun]
                        have e1 : l + n + (c + γ.ext a.block - (l + n)) = c + γ.ext a.block := by omega
                        have hnk : (s.setO a.block deadO).n = s.n := rfl
                        simp only [ren, Gh.at, Gh.put, hnk, if_true, Nat.add_zero, e1]
                      · cases he
                    · cases he
                  · have := evGrow_sim (s := s) (ty := ty) (base := some (γ.at a)) (l := l) (c := c + γ.ext a.block) (hR.kill a.block) rfl h0 h1 hxd hd hu hwo hwn hsz hlen hnewD (hfo _) (by omega) he
                    simpa only [ren] using this
                · cases he
            · cases he
        · cases he
      · cases he
    · cases he
  · cases he
end
section
variable {P : Program} {B : Nat → Prop} {γ : Gh} {s : St} {w : World}

def lenV : Value → Option Nat
  | .slice none 0 _ => some 0
  | .slice (some _) n _ => some n
  | .string t => some t.data.toList.length
  | _ => none
def cutV (k : Nat) : Value → Value
  | .slice b _ c => .slice b k c
  | y => y
noncomputable def evCopy (P : Program) (s : St) (dT : TypeId) (x y : Value) : Option (Value × St) :=
  match P.underlying dT with
  | some (.slice elem) =>
    match tsz P elem with
    | some sz =>
      match x, lenV y with
      | .slice base dl _, some m =>
        match evSrc s sz (cutV (Nat.min m dl) y) with
        | some (n, cells) =>
          match base with
          | none => if dl = 0 ∧ Nat.min m dl = 0 then some (goInt 0, s) else none
          | some a =>
            if Nat.min m dl = 0 then some (goInt 0, s)
            else (stL s ⟨a.block, a.off, none⟩ (cells.take (Nat.min m dl * sz))).map fun s' => (goInt (Nat.min m dl), s')
        | none => none
      | _, _ => none
    | none => none
  | _ => none

theorem evSrc_cut (hR : R B γ s w) {sz n dl : Nat} {y : Value} {l : List Value} {m : Nat} (hm : lenV y = some m)
    (he : evSrc s sz (cutV (Nat.min m dl) y) = some (n, l)) :
    (Builtin.lenOf (ren γ y)).run P w = .ok m w ∧ (Builtin.firstCells sz (Nat.min m dl) (ren γ y)).run P w = .ok ((l.take (Nat.min m dl * sz)).map (ren γ)).toArray w ∧ ∀ v ∈ l, Wf s.n v := by
  unfold lenV at hm
  split at hm
  · rename_i c
    injection hm with hm; subst hm
    obtain ⟨h1, h2, h3, h4⟩ := evSrc_run (P := P) hR he
    have h0 : Nat.min 0 dl = 0 := Nat.zero_min dl
    rw [h0] at *
    refine ⟨rfl, ?_, h3⟩
    simp only [ren]
    cases tailA γ c with
    | none => simp [Builtin.firstCells]
    | some b =>
      simp only [Builtin.firstCells, Nat.zero_mul, List.take_zero, List.map_nil]
      rfl
  · rename_i a k c
    injection hm with hm; subst hm
    simp only [cutV] at he
    obtain ⟨h1, h2, h3, h4⟩ := evSrc_run (P := P) hR he
    have hn : n = Nat.min k dl := by rw [ren] at h1; simp [Builtin.lenOf] at h1; exact h1.symm
    subst hn
    refine ⟨rfl, ?_, h3⟩
    rw [← h4, List.take_length]
    simpa [ren, Builtin.firstCells] using h2
  · rename_i t
    injection hm with hm; subst hm
    simp only [cutV] at he
    obtain ⟨h1, h2, h3, h4⟩ := evSrc_run (P := P) hR he
    have hs1 : sz = 1 ∧ n = t.data.toList.length ∧ l = t.data.toList.map fun b => .int .u8 b.toNat := by
      simp only [evSrc] at he
      split at he
      · rename_i h; injection he with he; injection he with a b; exact ⟨h, a.symm, b.symm⟩
      · cases he
    obtain ⟨rfl, rfl, rfl⟩ := hs1
    refine ⟨h1, ?_, h3⟩
    simp only [ren, Builtin.firstCells]
    show Result.ok _ _ = Result.ok _ _
    congr 1
    rw [ByteArray.data_extract]
    apply Array.ext'
    simp only [Array.toList_map, Array.toList_extract, List.extract_eq_take_drop, Nat.sub_zero, List.drop_zero, Nat.mul_one, List.map_take, List.map_map]
    congr 1
  · cases hm

theorem evCopy_sim (hR : R B γ s w) {argTypes : Array TypeId} {dT : TypeId} {ty : TypeId} {x y v : Value} {s' : St} (h0 : argTypes[0]? = some dT)
    (he : evCopy P s dT x y = some (v, s')) : Sim P B γ s w (Builtin.copy_ argTypes ty #[ren γ x, ren γ y]) v s' := by
  unfold evCopy at he
  split at he
  · rename_i elem hu
    split at he
    · rename_i sz hsz
      split at he
      · rename_i base dl dc m hm
        split at he
        · rename_i n cells hsrc
          obtain ⟨hlen, hfirst, hwf⟩ := evSrc_cut (P := P) hR hm hsrc
          split at he
          · split at he
            · rename_i hz
              obtain ⟨rfl, hz⟩ := hz
              injection he with he; injection he with h1 h2; subst h1 h2
              refine Sim.same hR ?_ trivial
              rw [hz] at hfirst
              unfold Builtin.copy_
              simp only [h0, pure_bind]
              simp only [ren]
              cases tailA γ dc with
              | none => simp [run_underlying hu, hlen, run_tsz hsz, hz, hfirst, goInt, ren]
              | some b => simp [run_underlying hu, hlen, run_tsz hsz, hz, hfirst, goInt, storeCells, ren]
            · cases he
          · rename_i a
            split at he
            · rename_i hz
              injection he with he; injection he with h1 h2; subst h1 h2
              refine Sim.same hR ?_ trivial
              rw [hz] at hfirst
              unfold Builtin.copy_
              simp only [h0, pure_bind]
              simp [ren, run_underlying hu, hlen, run_tsz hsz, hz, hfirst, goInt, storeCells]
            · cases hst : stL s ⟨a.block, a.off, none⟩ (cells.take (Nat.min m dl * sz)) with
              | none => simp [hst] at he
              | some s2 =>
                simp [hst] at he
                obtain ⟨h1, h2⟩ := he; subst h1 h2
                obtain ⟨w', hrun, hR', hb, hn'⟩ := hR.st (P := P) hst (fun v hv => hwf v (List.mem_of_mem_take hv))
                refine ⟨γ, w', ?_, Ext.refl _ _, hR', trivial, hb, Nat.le_of_eq hn'.symm⟩
                unfold Builtin.copy_
                simp only [h0, pure_bind]
                have hat : γ.at ⟨a.block, a.off, none⟩ = γ.at a := rfl
                rw [hat] at hrun
                simp only [ren]
                simp [run_underlying hu, hlen, run_tsz hsz, hfirst, goInt]
                rw [← List.map_take, hrun]
                rfl
        · cases he
      · cases he
    · cases he
  · cases he

theorem zs_zero (z : Value) (n : Nat) : (Builtin.zeroCells z.cells n).toList = zs z n := by
  by_cases h : n * z.cells.size = 0
  · have h1 : zs z n = [] := List.eq_nil_of_length_eq_zero (by rw [zs_len]; exact h)
    rw [h1]
    unfold Builtin.zeroCells
    rw [h]
    simp
  · have := zs_eq z n z.cells.size rfl
    simp only [if_neg h] at this
    unfold Builtin.zeroCells
    rw [this]
noncomputable def evClear (P : Program) (s : St) (t : TypeId) (x : Value) : Option (Value × St) :=
  match P.underlying t, x with
  | some (.slice _), .slice none _ 0 => some (.tuple #[], s)
  | some (.slice elem), .slice (some a) n _ =>
    if n = 0 then some (.tuple #[], s) else
    match tz P elem with
    | some z => if flat z = true then (stL s ⟨a.block, a.off, none⟩ (zs z n)).map fun s' => (.tuple #[], s') else none
    | none => none
  | _, _ => none
theorem evClear_sim (hR : R B γ s w) {argTypes : Array TypeId} {t ty : TypeId} {x v : Value} {s' : St} (h0 : argTypes[0]? = some t)
    (he : evClear P s t x = some (v, s')) : Sim P B γ s w (Builtin.clear_ argTypes ty #[ren γ x]) v s' := by
  unfold evClear at he
  split at he
  · rename_i elem l c hu
    injection he with he; injection he with h1 h2; subst h1 h2
    refine Sim.same hR ?_ ((Wf_tuple _ _).2 (by simp))
    unfold Builtin.clear_
    simp only [h0]
    simp [ren, run_underlying hu, renL, tailA, tailC]
  · rename_i elem a n c hu
    split at he
    · rename_i hn
      subst hn
      injection he with he; injection he with h1 h2; subst h1 h2
      refine Sim.same hR ?_ ((Wf_tuple _ _).2 (by simp))
      unfold Builtin.clear_
      simp only [h0]
      simp [ren, run_underlying hu, renL]
    · rename_i hn
      split at he
      · rename_i z hz
        split at he
        · rename_i hf
          cases hst : stL s ⟨a.block, a.off, none⟩ (zs z n) with
          | none => simp [hst] at he
          | some s2 =>
            simp [hst] at he
            obtain ⟨h1, h2⟩ := he; subst h1 h2
            obtain ⟨w', hrun, hR', hb, hn'⟩ := hR.st (P := P) hst (fun x hx => Wf_cells (flat_wf s.n hf) x (zs_mem z _ x hx))
            refine ⟨γ, w', ?_, Ext.refl _ _, hR', (Wf_tuple _ _).2 (by simp), hb, Nat.le_of_eq hn'.symm⟩
            have hat : γ.at ⟨a.block, a.off, none⟩ = γ.at a := rfl
            rw [hat, flat_map γ hf (zs_mem z n)] at hrun
            unfold Builtin.clear_
            simp only [h0]
            simp only [ren]
            simp [run_underlying hu, run_tz hz, hn, zs_zero, hrun, ren, renL]
        · cases he
      · cases he
  · cases he

noncomputable def evLen (P : Program) (t : TypeId) (x : Value) : Option Value :=
  match P.underlying t, x with
  | some .string, .string b => some (goInt b.data.toList.length)
  | some (.array n _), _ => some (goInt n)
  | some (.slice _), .slice _ n _ => some (goInt n)
  | _, _ => none
theorem evLen_run {argTypes : Array TypeId} {t ty : TypeId} {x v : Value} (h0 : argTypes[0]? = some t) (he : evLen P t x = some v) :
    (Builtin.len_ argTypes ty #[ren γ x]).run P w = .ok (ren γ v) w ∧ Wf s.n v := by
  unfold evLen at he
  split at he
  · rename_i b hu
    injection he with he; subst he
    have : b.data.toList.length = b.size := (Array.length_toList : b.data.toList.length = b.data.size)
    exact ⟨by simp [Builtin.len_, h0, run_underlying hu, ren, goInt], trivial⟩
  · rename_i n e hu
    injection he with he; subst he
    refine ⟨?_, trivial⟩
    simp [Builtin.len_, h0, run_underlying hu, goInt, ren]
  · rename_i e b n c hu
    injection he with he; subst he
    refine ⟨?_, trivial⟩
    cases b <;> simp [Builtin.len_, h0, run_underlying hu, goInt, ren]
  · cases he

noncomputable def evCap (P : Program) (s : St) (t : TypeId) (x : Value) : Option Value :=
  match P.underlying t, x with
  | some (.slice _), .slice none _ 0 => some (goInt 0)
  | some (.slice _), .slice (some a) _ c => if (s.obj a.block).live = true ∧ (s.obj a.block).opn = false then some (goInt c) else none
  | _, _ => none
theorem evCap_run (hR : R B γ s w) {argTypes : Array TypeId} {t ty : TypeId} {x v : Value} (h0 : argTypes[0]? = some t) (he : evCap P s t x = some v) :
    (Builtin.cap_ argTypes ty #[ren γ x]).run P w = .ok (ren γ v) w ∧ Wf s.n v := by
  unfold evCap at he
  split at he
  · rename_i e n c hu
    injection he with he; subst he
    exact ⟨by simp [Builtin.cap_, h0, run_underlying hu, ren, goInt, tailC], trivial⟩
  · rename_i e a n c hu
    split at he
    · rename_i hc
      injection he with he; subst he
      have hext := (hR.cl _ hc.1 hc.2).1
      exact ⟨by simp [Builtin.cap_, h0, run_underlying hu, ren, goInt, hext], trivial⟩
    · cases he
  · cases he

def evMin2 : Value → Value → Option Value
  | .int k x, .int k' y => if k = k' then some (.int k (if y < x then y else x)) else none
  | _, _ => none
def evMax2 : Value → Value → Option Value
  | .int k x, .int k' y => if k = k' then some (.int k (if y > x then y else x)) else none
  | _, _ => none
end
end Go.Ev
