/-
  Lists of done operations as rows; the closed answers of apply; no condition.
-/
import Derived.Test.YtgihflmjihnbkaaEvU
import Derived.Test.YtgihflmjihnbkaaBase
import Derived.Test.YtgihflmjihnbkaaSrc
import Derived.Laws.Rows
import Derived.Lib.Hide
import Derived.Deep.Cut
import Derived.LoopTactic
namespace Go.Proofs.Ytgihflmjihnbkaa
open Go Go.RowKit Go.WideShapes Go.ChangeShapes
set_option linter.all false
section
variable {P : Program} {w : World} {size n : Nat} {xs : List Value}
theorem wpList_append_src {ops : Array Oper} {rest : List Oper} {o : Oper} {a : Act} {Q : Exit → Act → World → Prop} (hg : o.guard = none) (s x : Operand) (t : TypeId)
    (ho : o.op = .call { callee := .builtin .append, args := #[s, x], argTypes := #[t, t] })
    (base : Nat) (e : TypeId) (i : TypeInfo) (z : Value) (size bytes : Nat) (ht : P.underlying t = some (.slice e)) (hi : P.info? e = some i) (hz : i.zero = some z)
    (hsize : i.size = size) (hby : i.bytes = bytes) (hzs : z.cells.size = size) (hsz : 0 < size) (v : Value) (n : Nat) (xs : List Value) (hs : a.eval s = v) (h : Mid w base e size v n xs)
    (B : Nat) (A : Option Addr) (m c : Nat) (news : List Value) (hx : a.eval x = .slice A m c) (hr : Reads w B size A m news) (h1 : ∀ u ∈ news, u.oneCell' = true)
    (h63 : n + m ≤ maxLen) (hbytes : (n + m) * bytes ≤ 140737488355328) (hbase : base ≤ w.heap.size)
    (hK : ∀ v' w', Mid w' base e size v' (n + m) (xs ++ news) → Ran v v' w w' → wpList P ops Q rest (a.put o.dst v') w') : wpList P ops Q (o :: rest) a w :=
  wpList_plain hg fun K hK' => by
    obtain ⟨v', w', hrun, h2, h3⟩ := run_append_src (P := P) o.type e t i z bytes ht hi hz hsize hby hzs hsz h B A m c news hr h1 h63 hbytes hbase
    unfold Oper.wp execOp
    simp only [ho, resolve, invoke, builtin, Sem.run_bind, Sem.run_pure, Result.andThen_ok, List.map_toArray, List.map_cons, List.map_nil, hs, hx, hrun]
    exact hK' _ _ (hK v' w' h2 h3)
end
theorem Mid.reads {w : World} {N n c size : Nat} {t : TypeId} {A : Option Addr} {xs : List Value} (h : Mid w N t size (.slice A n c) n xs) : Reads w w.heap.size size A n xs := by
  refine ⟨h.1, fun hn => ?_⟩
  rcases h.2 with ⟨h', h0⟩ | ⟨g, off, cap, cur, h', hb, hh, _⟩
  · omega
  · simp only [Value.slice.injEq, true_and] at h'
    obtain ⟨rfl, rfl⟩ := h'
    refine ⟨_, rfl, ?_, fun j u hu => ?_⟩
    · rcases Nat.lt_or_ge g w.heap.size with hlt | hge
      · exact hlt
      · rw [Array.getElem?_eq_none hge] at hh; cases hh
    · rw [Addr.add_lit]; exact h.cells j u hu
theorem Mid.caps {w : World} {N n c size : Nat} {t : TypeId} {A : Option Addr} {xs : List Value} (h : Mid w N t size (.slice A n c) n xs) : n ≤ c ∧ c ≤ maxLen := by
  rcases h.2 with ⟨h', h0⟩ | ⟨g, off, cap, cur, h', hb, hh, h1, h2, _⟩
  · injection h' with h1 h2 h3; subst h3; exact ⟨by omega, Nat.zero_le _⟩
  · injection h' with h3 h4 h5; subst h5; exact ⟨h1, h2⟩

theorem below_alloc (w : World) (o : Obj) : Below w.heap.size w (w.alloc o) := (Below.refl _ _).alloc (Nat.le_refl _) o
theorem Mid.onb {w w' : World} {N n size : Nat} {t : TypeId} {v : Value} {xs : List Value} (h : Mid w N t size v n xs) (hb : Below w.heap.size w w') : Mid w' N t size v n xs := h.same fun g hg => hb.block g (h.lt g hg).2
/-- A done operation: its kind, its error, its value. -/
abbrev D := Int × Int × Int
def dd : D := (0, 0, 0)
def cD (d : D) : List Value := [.int .i64 0, .int .i64 0, .int .i64 d.1, .string ⟨#[97]⟩, .string ⟨#[]⟩, .int .i64 0, .int .i64 d.2.1, .bool false, .int .i64 d.2.2, .slice none 0 0]
def vD (d : D) : Value := .agg #[.int .i64 0, .int .i64 0, .int .i64 d.1, .string ⟨#[97]⟩, .string ⟨#[]⟩, .int .i64 0, .int .i64 d.2.1, .bool false, .int .i64 d.2.2, .slice none 0 0]
def rowD : List D → List Value
  | [] => []
  | d :: l => cD d ++ rowD l
theorem cD_len (d : D) : (cD d).length = 10 := rfl
theorem rowD_len : ∀ l : List D, (rowD l).length = l.length * 10
  | [] => rfl
  | d :: l => by rw [rowD, List.length_append, rowD_len l, cD_len, List.length_cons]; omega
theorem rowD_app : ∀ a b : List D, rowD (a ++ b) = rowD a ++ rowD b
  | [], b => rfl
  | d :: l, b => by rw [List.cons_append, rowD, rowD, rowD_app l b, List.append_assoc]
theorem rowD_at : ∀ (l : List D) (k f : Nat), k < l.length → f < 10 → (rowD l)[k * 10 + f]? = (cD (l.getD k dd))[f]?
  | [], k, f, h, _ => by simp at h
  | d :: l, 0, f, _, hf => by
    rw [rowD, List.getElem?_append_left (by rw [cD_len]; omega), Nat.zero_mul, Nat.zero_add, List.getD_cons_zero]
  | d :: l, k + 1, f, h, hf => by
    rw [rowD, List.getElem?_append_right (by rw [cD_len]; omega), cD_len, List.getD_cons_succ, show (k + 1) * 10 + f - 10 = k * 10 + f by omega]
    exact rowD_at l k f (by simpa using h) hf
theorem one_cells : ∀ l : List D, ∀ u ∈ rowD l, u.oneCell' = true
  | [], u, h => by simp [rowD] at h
  | d :: l, u, h => by
    rw [rowD, List.mem_append] at h
    rcases h with h | h
    · simp only [cD, List.mem_cons, List.not_mem_nil, or_false] at h
      rcases h with rfl | rfl | rfl | rfl | rfl | rfl | rfl | rfl | rfl | rfl <;> rfl
    · exact one_cells l u h
/-- What apply says of it. -/
def apB (d : D) : Bool := decide (d = (2, 2, 0)) || decide (d = (3, 2, 0))
/-- The done operations of the law. -/
def few : List D := [(2, 2, 0), (3, 2, 0), (2, 2, 1)] ++ (List.range 11).map (fun e : Nat => (2, 1 + (e : Int), 0)) ++ (List.range 11).map (fun e : Nat => (1, 1 + (e : Int), 0))
noncomputable def isVal (u : Value) : Ev.Res → Bool
  | .val v _ => Ev.veq v u
  | _ => false
theorem calls_val [Ev.Tok] [Ev.Sym] {P : Program} {orc : Ev.Orc} (hs : Ev.SymOk P) (ho : Ev.OrcOk P orc) (hm : P.follows .mixedOrders = true) {n g : Nat} {u : Value} {args : List Value} (hu : ∀ γ, Ev.ren γ u = u) (ha : ∀ v ∈ args, Ev.Wf 0 v) (h : isVal u (Ev.runF P orc n (.fn g args Ev.st0)) = true) (w : World) :
    Calls P g (args.map (Ev.ren Ev.γ0)).toArray w fun e w' => e = .returned u ∧ Below w.heap.size w w' := by
  rw [Ev.runF_eq] at h
  unfold isVal at h
  split at h
  case h_2 => cases h
  rename_i v s hres
  have hv := Ev.veq_spec _ _ h
  subst hv
  have := (Ev.sound hs ho hm n).1.2 g args Ev.st0 _ s hres (fun k => k < w.heap.size) Ev.γ0 w (Ev.R.zero _ w) ha
  refine this.mono ?_
  rintro r w' ⟨γ, rfl, _, hR, _, hb, _⟩
  exact ⟨by rw [hu γ], hb.below⟩
set_option maxRecDepth 1000000
noncomputable def chk (d : D) : Bool := letI : Ev.Tok := ⟨fun _ => 0, fun _ => ByteArray.empty⟩; isVal (.tuple #[.slice none 0 0, .bool (apB d)]) (@Ev.runF Ev.noSym Try.prog Ev.noOrc 20000 (.fn 9 [.slice none 0 0, vD d] Ev.st0))
theorem few_ok : few.all chk = true := by kernel_rfl
theorem apply_any {d : D} (h : d ∈ few) (w : World) : Calls Try.prog 9 #[.slice none 0 0, vD d] w fun e w' => e = .returned (.tuple #[.slice none 0 0, .bool (apB d)]) ∧ Below w.heap.size w w' := by
  letI : Ev.Tok := ⟨fun _ => 0, fun _ => ByteArray.empty⟩
  letI : Ev.Sym := Ev.noSym
  have h1 : chk d = true := List.all_eq_true.1 few_ok d h
  exact @calls_val _ Ev.noSym Try.prog Ev.noOrc (Ev.noSym_ok _) Ev.noOrc_ok mixed 20000 9 (.tuple #[.slice none 0 0, .bool (apB d)]) [.slice none 0 0, vD d] (fun γ => rfl) (by simp [vD, Ev.Wf, Ev.WfL]) h1 w
theorem linRuns_ev : Ev.isTrue (letI : Ev.Tok := ⟨fun _ => 0, fun _ => ByteArray.empty⟩; @Ev.runF Ev.noSym Try.prog Ev.noOrc 400000 (.fn 7 [] Ev.st0)) = true := by kernel_rfl
theorem linRuns_any (w : World) : Calls Try.prog 7 #[] w fun e w' => e = .returned (.bool true) ∧ Below w.heap.size w w' := by
  letI : Ev.Tok := ⟨fun _ => 0, fun _ => ByteArray.empty⟩
  letI : Ev.Sym := Ev.noSym
  exact @Ev.calls_true_args _ Ev.noSym Try.prog _ (Ev.noSym_ok _) Ev.noOrc_ok mixed 400000 7 [] (by simp) (Ev.fast linRuns_ev) w
end Go.Proofs.Ytgihflmjihnbkaa
