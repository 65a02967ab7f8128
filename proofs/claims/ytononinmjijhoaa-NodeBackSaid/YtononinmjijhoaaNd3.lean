/-
  Appends to rows of the call's own: what nodes want; no condition.
-/
import Derived.Test.YtononinmjijhoaaSrc
import Derived.Test.YtononinmjijhoaaNd2
import Derived.BigFrame
import Derived.StillTailTactics
namespace Go.Proofs.Ytononinmjijhoaa
open Go.RowKit Go.WideShapes Go.ChangeShapes
set_option linter.all false
theorem Ran.refl (v : Value) (w : World) : Ran v v w w := ⟨World.grownBy.refl w _, .inl rfl⟩
theorem Ran.trans {v v1 v2 : Value} {w w1 w2 : World} (h : Ran v v1 w w1) (k : Ran v1 v2 w1 w2) : Ran v v2 w w2 := by
  refine ⟨⟨k.grown.os.trans h.grown.os, k.grown.tape.trans h.grown.tape, k.grown.output.trans h.grown.output, Nat.le_trans h.grown.size k.grown.size, fun b hb hne => ?_⟩, ?_⟩
  · refine (k.grown.block b (Nat.lt_of_lt_of_le hb h.grown.size) (fun e => ?_)).trans (h.grown.block b hb hne)
    rcases h.at_ with a | a
    · rw [a] at e; exact hne e
    · have := a b e.symm; omega
  · rcases k.at_ with a | a
    · rcases h.at_ with b | b
      · exact .inl (a.trans b)
      · exact .inr fun g hg => b g (by rw [← a]; exact hg)
    · exact .inr fun g hg => Nat.le_trans h.grown.size (a g hg)
theorem Ran.alloc {v v1 : Value} {w w1 : World} {o : Obj} (h : Ran v v1 (w.alloc o) w1) : Ran v v1 w w1 :=
  ⟨⟨h.grown.os, h.grown.tape, h.grown.output, by have := h.grown.size; simp at this; omega, fun b hb hne => (h.grown.block b (by simp; omega) hne).trans (Below.heap_alloc w o b hb)⟩, h.at_.imp id fun k g hg => by have := k g hg; simp at this; omega⟩
theorem Ran.drew {v v1 : Value} {w w1 : World} (h : Ran v v1 w.drew w1) : Ran v v1 w w1 := ⟨⟨h.grown.os, h.grown.tape, h.grown.output, h.grown.size, h.grown.block⟩, h.at_⟩
section
variable {P : Program} {w : World} {size n : Nat} {xs : List Value}
theorem wpList_append_src {ops : Array Oper} {rest : List Oper} {o : Oper} {a : Act} {Q : Exit → Act → World → Prop} (hg : o.guard = none) (s x : Operand) (t : TypeId)
    (ho : o.op = .call { callee := .builtin .append, args := #[s, x], argTypes := #[t, t] })
    (base : Nat) (e : TypeId) (i : TypeInfo) (z : Value) (size bytes : Nat) (ht : P.underlying t = some (.slice e)) (hi : P.info? e = some i) (hz : i.zero = some z)
    (hsize : i.size = size) (hby : i.bytes = bytes) (hzs : z.cells.size = size) (hsz : 0 < size) (v : Value) (n : Nat) (xs : List Value) (hs : a.eval s = v) (h : Mid w base e size v n xs)
    (B : Nat) (A : Option Addr) (m c : Nat) (news : List Value) (hx : a.eval x = .slice A m c) (hr : Reads w B size A m news) (h1 : ∀ u ∈ news, u.oneCell' = true)
    (h63 : n + m ≤ maxLen) (hbytes : (n + m) * bytes ≤ 140737488355328) (hbase : base ≤ w.heap.size)
    (hK : ∀ v' w', Mid w' base e size v' (n + m) (xs ++ news) → Ran v v' w w' → wpList P ops Q rest (a.put o.dst v') w') : wpList P ops Q (o :: rest) a w :=
  wpList_plain hg fun K hK' => by
    obtain ⟨v', w', hrun, h2, h3⟩ := run_append_src (P := P) o.type e t i z bytes ht hi hz hsize hby hzs hsz h B A m c news hr h1 h63 hbytes hbase
    unfold Oper.wp execOp
    simp only [ho, resolve, invoke, builtin, Sem.run_bind, Sem.run_pure, Result.andThen_ok, List.map_toArray, List.map_cons, List.map_nil, hs, hx, hrun]
    exact hK' _ _ (hK v' w' h2 h3)
end
theorem Mid.reads {w : World} {N n c size : Nat} {t : TypeId} {A : Option Addr} {xs : List Value} (h : Mid w N t size (.slice A n c) n xs) : Reads w w.heap.size size A n xs := by
  refine ⟨h.1, fun hn => ?_⟩
  rcases h.2 with ⟨h', h0⟩ | ⟨g, off, cap, cur, h', hb, hh, _⟩
  · omega
  · simp only [Value.slice.injEq, true_and] at h'
    obtain ⟨rfl, rfl⟩ := h'
    refine ⟨_, rfl, ?_, fun j u hu => ?_⟩
    · rcases Nat.lt_or_ge g w.heap.size with hlt | hge
      · exact hlt
      · rw [Array.getElem?_eq_none hge] at hh; cases hh
    · rw [Addr.add_lit]; exact h.cells j u hu
theorem Mid.caps {w : World} {N n c size : Nat} {t : TypeId} {A : Option Addr} {xs : List Value} (h : Mid w N t size (.slice A n c) n xs) : n ≤ c ∧ c ≤ maxLen := by
  rcases h.2 with ⟨h', h0⟩ | ⟨g, off, cap, cur, h', hb, hh, h1, h2, _⟩
  · injection h' with h1 h2 h3; subst h3; exact ⟨by omega, Nat.zero_le _⟩
  · injection h' with h3 h4 h5; subst h5; exact ⟨h1, h2⟩
theorem Mid.nilcap {w : World} {N n c size : Nat} {t : TypeId} {A : Option Addr} {xs : List Value} (h : Mid w N t size (.slice A n c) n xs) : A = none → c = 0 := by
  rintro rfl
  rcases h.2 with ⟨h', h0⟩ | ⟨g, off, cap, cur, h', _⟩
  · injection h'
  · injection h' with h1; cases h1
theorem info_parts {P : Program} {e : TypeId} {z : Value} {s b : Nat} (h : (P.info? e).map (fun i => (i.zero, i.size, i.bytes)) = some (some z, s, b)) : ∃ i, P.info? e = some i ∧ i.zero = some z ∧ i.size = s ∧ i.bytes = b := by
  cases hi : P.info? e with
  | none => rw [hi] at h; cases h
  | some i =>
    rw [hi] at h
    simp only [Option.map_some, Option.some.injEq, Prod.mk.injEq] at h
    exact ⟨i, rfl, h.1, h.2.1, h.2.2⟩
theorem infoI : (Try.prog.info? 3).map (fun i => (i.zero, i.size, i.bytes)) = some (some (.int .i64 0), 1, 8) := by kernel_rfl
theorem infoB : (Try.prog.info? 5).map (fun i => (i.zero, i.size, i.bytes)) = some (some (.int .u8 0), 1, 1) := by kernel_rfl
theorem one_ints (k : IntKind) (xs : List Int) : ∀ u ∈ xs.map (Value.int k), u.oneCell' = true := by
  intro u hu
  obtain ⟨x, _, rfl⟩ := List.mem_map.1 hu
  rfl
/-- A node as it is handed on by value. -/
def nodeV (kd wd : Int) (pf : ByteArray) (A : Option Addr) (c : Nat) (A' : Option Addr) (c' n : Nat) : Value := .agg #[.int .i64 kd, .int .u64 wd, .string pf, .slice A n c, .slice A' n c']
/-- A right node's lists. -/
structure NodeL (kd wd : Int) (pf : ByteArray) (xs ys : List Int) (n : Nat) : Prop where
  high : (n : Int) ≤ highV kd
  kind : 0 < highV kd
  word : (bits .and .u64 wd 3 == 3) = false
  pref : pf.size ≤ 12
  asc : Asc xs
  refs : Refs ys
set_option maxRecDepth 100000 in
set_option maxHeartbeats 1600000 in
theorem right_any (kd wd : Int) (pf : ByteArray) (A : Option Addr) (c : Nat) (A' : Option Addr) (c' n : Nat) (xs ys : List Int) (w : World) (h : NodeL kd wd pf xs ys n) (hn : n ≤ 256)
    (hx : Reads w w.heap.size 1 A n (xs.map (Value.int .u8))) (hy : Reads w w.heap.size 1 A' n (ys.map (Value.int .i64))) :
    Calls Try.prog 21 #[nodeV kd wd pf A c A' c' n] w fun e w' => e = .returned (.bool true) ∧ Below w.heap.size w w' := by
  have HX : ∀ k, Hid (Reads ((w.alloc (.cells #[.int .i64 kd, .int .u64 wd, .string pf, .slice A n c, .slice A' n c'] 28)).drewN k) w.heap.size 1 A n (xs.map (Value.int .u8))) := fun k => Lib.hid ((hx.alloc (Nat.le_refl _) _).drewN k)
  have HY : ∀ k, Hid (Reads ((w.alloc (.cells #[.int .i64 kd, .int .u64 wd, .string pf, .slice A n c, .slice A' n c'] 28)).drewN k) w.heap.size 1 A' n (ys.map (Value.int .i64))) := fun k => Lib.hid ((hy.alloc (Nat.le_refl _) _).drewN k)
  have HX' := Lib.hid HX
  have HY' := Lib.hid HY
  have HL := Lib.hid h
  have h1 : decide ((0 : Int) < highV kd) = true := decide_eq_true h.kind
  have h2 := h.word
  have h3 : decide ((pf.size : Int) ≤ 12) = true := decide_eq_true (by have := h.pref; omega)
  have h4 : decide ((n : Int) ≤ highV kd) = true := decide_eq_true h.high
  have h5 : ((n : Int) == (n : Int)) = true := by simp
  have HBW : ∀ k, Below w.heap.size w ((w.alloc (.cells #[.int .i64 kd, .int .u64 wd, .string pf, .slice A n c, .slice A' n c'] 28)).drewN k) := fun k => belowN ((Below.refl _ _).alloc (Nat.le_refl _) _) k
  have HBW' := Lib.hid HBW
  clear HX HY hx hy h HBW
  unfold nodeV
  go_enter Try.func21, Try.ntmps21
  go_wp2
  go_quiet (first
    | (go_at_call 12; exact Calls.quiet_of_same (high_any kd _))
    | (go_at_call 35; have h35 := dead_any wd; rw [h2] at h35; exact Calls.quiet_of_same (h35 _))
    | (go_at_call 36; exact Calls.quiet_of (asc_any _ _ _ xs _ w.heap.size (HX'.out _).out (by omega) HL.out.asc))
    | (go_at_call 37; exact Calls.quiet_of_same (contains_any _ _ _ ys _ w.heap.size (HY'.out _).out (by omega) HL.out.refs)))
  go_wp2
  go_ret
  exact ⟨rfl, HBW'.out _⟩
end Go.Proofs.Ytononinmjijhoaa
