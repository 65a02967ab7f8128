/-
  Appends to a row of entries of the call's own; where a term is or would be; no condition beyond lengths.
-/
import Derived.Test.YtbfmklaakjepaaaDoorSrc
import Derived.Test.YtbfmklaakjepaaaDoorSh3
import Derived.BigFrame
import Derived.StillTailTactics
namespace Go.Proofs.YtbfmklaakjepaaaDoor
open Go.RowKit Go.WideShapes Go.ChangeShapes
set_option linter.all false
theorem Ran.refl (v : Value) (w : World) : Ran v v w w := ⟨World.grownBy.refl w _, .inl rfl⟩
theorem Ran.trans {v v1 v2 : Value} {w w1 w2 : World} (h : Ran v v1 w w1) (k : Ran v1 v2 w1 w2) : Ran v v2 w w2 := by
  refine ⟨⟨k.grown.os.trans h.grown.os, k.grown.tape.trans h.grown.tape, k.grown.output.trans h.grown.output, Nat.le_trans h.grown.size k.grown.size, fun b hb hne => ?_⟩, ?_⟩
  · refine (k.grown.block b (Nat.lt_of_lt_of_le hb h.grown.size) (fun e => ?_)).trans (h.grown.block b hb hne)
    rcases h.at_ with a | a
    · rw [a] at e; exact hne e
    · have := a b e.symm; omega
  · rcases k.at_ with a | a
    · rcases h.at_ with b | b
      · exact .inl (a.trans b)
      · exact .inr fun g hg => b g (by rw [← a]; exact hg)
    · exact .inr fun g hg => Nat.le_trans h.grown.size (a g hg)
theorem Ran.alloc {v v1 : Value} {w w1 : World} {o : Obj} (h : Ran v v1 (w.alloc o) w1) : Ran v v1 w w1 :=
  ⟨⟨h.grown.os, h.grown.tape, h.grown.output, by have := h.grown.size; simp at this; omega, fun b hb hne => (h.grown.block b (by simp; omega) hne).trans (Below.heap_alloc w o b hb)⟩, h.at_.imp id fun k g hg => by have := k g hg; simp at this; omega⟩
theorem Ran.drew {v v1 : Value} {w w1 : World} (h : Ran v v1 w.drew w1) : Ran v v1 w w1 := ⟨⟨h.grown.os, h.grown.tape, h.grown.output, h.grown.size, h.grown.block⟩, h.at_⟩
section
variable {P : Program} {w : World} {size n : Nat} {xs : List Value}
theorem wpList_append_src {ops : Array Oper} {rest : List Oper} {o : Oper} {a : Act} {Q : Exit → Act → World → Prop} (hg : o.guard = none) (s x : Operand) (t : TypeId)
    (ho : o.op = .call { callee := .builtin .append, args := #[s, x], argTypes := #[t, t] })
    (base : Nat) (e : TypeId) (i : TypeInfo) (z : Value) (size bytes : Nat) (ht : P.underlying t = some (.slice e)) (hi : P.info? e = some i) (hz : i.zero = some z)
    (hsize : i.size = size) (hby : i.bytes = bytes) (hzs : z.cells.size = size) (hsz : 0 < size) (v : Value) (n : Nat) (xs : List Value) (hs : a.eval s = v) (h : Mid w base e size v n xs)
    (B : Nat) (A : Option Addr) (m c : Nat) (news : List Value) (hx : a.eval x = .slice A m c) (hr : Reads w B size A m news) (h1 : ∀ u ∈ news, u.oneCell' = true)
    (h63 : n + m ≤ maxLen) (hbytes : (n + m) * bytes ≤ 140737488355328) (hbase : base ≤ w.heap.size)
    (hK : ∀ v' w', Mid w' base e size v' (n + m) (xs ++ news) → Ran v v' w w' → wpList P ops Q rest (a.put o.dst v') w') : wpList P ops Q (o :: rest) a w :=
  wpList_plain hg fun K hK' => by
    obtain ⟨v', w', hrun, h2, h3⟩ := run_append_src (P := P) o.type e t i z bytes ht hi hz hsize hby hzs hsz h B A m c news hr h1 h63 hbytes hbase
    unfold Oper.wp execOp
    simp only [ho, resolve, invoke, builtin, Sem.run_bind, Sem.run_pure, Result.andThen_ok, List.map_toArray, List.map_cons, List.map_nil, hs, hx, hrun]
    exact hK' _ _ (hK v' w' h2 h3)
end
theorem Mid.reads {w : World} {N n c size : Nat} {t : TypeId} {A : Option Addr} {xs : List Value} (h : Mid w N t size (.slice A n c) n xs) : Reads w w.heap.size size A n xs := by
  refine ⟨h.1, fun hn => ?_⟩
  rcases h.2 with ⟨h', h0⟩ | ⟨g, off, cap, cur, h', hb, hh, _⟩
  · omega
  · simp only [Value.slice.injEq, true_and] at h'
    obtain ⟨rfl, rfl⟩ := h'
    refine ⟨_, rfl, ?_, fun j u hu => ?_⟩
    · rcases Nat.lt_or_ge g w.heap.size with hlt | hge
      · exact hlt
      · rw [Array.getElem?_eq_none hge] at hh; cases hh
    · rw [Addr.add_lit]; exact h.cells j u hu
theorem Mid.caps {w : World} {N n c size : Nat} {t : TypeId} {A : Option Addr} {xs : List Value} (h : Mid w N t size (.slice A n c) n xs) : n ≤ c ∧ c ≤ maxLen := by
  rcases h.2 with ⟨h', h0⟩ | ⟨g, off, cap, cur, h', hb, hh, h1, h2, _⟩
  · injection h' with h1 h2 h3; subst h3; exact ⟨by omega, Nat.zero_le _⟩
  · injection h' with h3 h4 h5; subst h5; exact ⟨h1, h2⟩
theorem infoE : (Tryd.prog.info? 23).map (fun i => (i.zero, i.size, i.bytes)) = some (some (.agg #[.string ⟨#[]⟩, .int .i64 0]), 2, 24) := by kernel_rfl
theorem info_parts {P : Program} {e : TypeId} {z : Value} {s b : Nat} (h : (P.info? e).map (fun i => (i.zero, i.size, i.bytes)) = some (some z, s, b)) : ∃ i, P.info? e = some i ∧ i.zero = some z ∧ i.size = s ∧ i.bytes = b := by
  cases hi : P.info? e with
  | none => rw [hi] at h; cases h
  | some i =>
    rw [hi] at h
    simp only [Option.map_some, Option.some.injEq, Prod.mk.injEq] at h
    exact ⟨i, rfl, h.1, h.2.1, h.2.2⟩
theorem one_cells : ∀ l : List En, ∀ u ∈ rowE l, u.oneCell' = true
  | [], u, h => by simp [rowE] at h
  | e :: l, u, h => by
    simp only [rowE, List.mem_cons] at h
    rcases h with rfl | rfl | h
    · rfl
    · rfl
    · exact one_cells l u h
/-- Is there an entry with this text, where it would be? -/
def thereN (t : ByteArray) (es : List En) : Bool := decide (seekN t es < es.length ∧ (es.getD (seekN t es) d0).1 = t)
theorem seek_leN (t : ByteArray) : ∀ l : List En, seekN t l ≤ l.length
  | [] => Nat.le_refl _
  | e :: l => by
    unfold seekN
    split
    · have := seek_leN t l; simp only [List.length_cons]; omega
    · exact Nat.zero_le _
theorem beq_self (x : ByteArray) : (x.toList == x.toList) = true := by simp
set_option maxRecDepth 100000 in
set_option maxHeartbeats 1600000 in
theorem find_any (A : Option Addr) (n c : Nat) (es : List En) (t : ByteArray) (w : World) (hx : Reads w w.heap.size 2 A n (rowE es)) (hn : n ≤ 9223372036854775807) :
    Calls Tryd.prog 22 #[.slice A n c, .string t] w fun e w' => e = .returned (.tuple #[.int .i64 (seekN t es), .bool (thereN t es)]) ∧ Below w.heap.size w w' := by
  have LX : Hid (es.length = n) := Lib.hid (ents_len hx)
  have HS := seek_leN t es
  rw [LX.out] at HS
  obtain ⟨k, hk⟩ : ∃ k, k = seekN t es := ⟨_, rfl⟩
  have HK := Lib.hid hk
  rw [← hk] at HS
  clear hk
  have HX := Lib.hid hx
  go_enter Tryd.func22, Tryd.ntmps22
  by_cases hlt : k < n
  · obtain ⟨x, hxx⟩ : ∃ x, x = (es.getD k d0).1 := ⟨_, rfl⟩
    have HXX := Lib.hid hxx
    have hltI : (k : Int) < (n : Int) := by omega
    clear hxx hx
    by_cases hxt : x = t
    · have HT : Hid (thereN t es = true) := Lib.hid (by unfold thereN; rw [← HK.out, LX.out]; exact decide_eq_true ⟨hlt, by rw [← HXX.out]; exact hxt⟩)
      have heq : (x.toList == t.toList) = true := by rw [hxt]; exact beq_self t
      clear hxt
      go_wp2_with (first
        | (go_at_call 12; refine (seek_any _ _ _ es t _ HX.out (by omega)).mono ?_; rintro e w1 ⟨rfl, hb1⟩; rw [← HK.out])
        | fail)
      have HB1 := Lib.hid hb1
      obtain ⟨ad, rfl, hb, h0, _⟩ := ents_get (HX.out.below hb1) hlt
      rw [← HXX.out] at h0
      clear hb1
      go_big_region
      all_goals
        go_wp2
        go_ret2
        exact ⟨by rw [HT.out, ← HK.out]; rfl, HB1.out.drew⟩
    · have HT : Hid (thereN t es = false) := Lib.hid (by unfold thereN; exact decide_eq_false (fun q => hxt (by rw [HXX.out, HK.out]; exact q.2)))
      have heq : (x.toList == t.toList) = false := by
        cases h : x.toList == t.toList with
        | false => rfl
        | true => exact absurd (toList_inj (by simpa using h)) hxt
      clear hxt
      go_wp2_with (first
        | (go_at_call 12; refine (seek_any _ _ _ es t _ HX.out (by omega)).mono ?_; rintro e w1 ⟨rfl, hb1⟩; rw [← HK.out])
        | fail)
      have HB1 := Lib.hid hb1
      obtain ⟨ad, rfl, hb, h0, _⟩ := ents_get (HX.out.below hb1) hlt
      rw [← HXX.out] at h0
      clear hb1
      go_big_region
      all_goals
        go_wp2
        go_ret2
        exact ⟨by rw [HT.out, ← HK.out]; rfl, HB1.out.drew⟩
  · obtain rfl : k = n := by omega
    have HT : Hid (thereN t es = false) := Lib.hid (by unfold thereN; exact decide_eq_false (fun q => by have := q.1; rw [← HK.out, LX.out] at this; omega))
    clear hx
    go_wp2_with (first
      | (go_at_call 12; refine (seek_any _ _ _ es t _ HX.out (by omega)).mono ?_; rintro e w1 ⟨rfl, hb1⟩; rw [← HK.out])
      | fail)
    have HB1 := Lib.hid hb1
    clear hb1
    go_quiet (fail)
    go_wp2
    go_ret2
    exact ⟨by rw [HT.out, ← HK.out]; rfl, belowN HB1.out _⟩
end Go.Proofs.YtbfmklaakjepaaaDoor
