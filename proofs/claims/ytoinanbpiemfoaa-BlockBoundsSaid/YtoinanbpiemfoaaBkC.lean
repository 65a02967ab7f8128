/-
  Rising ids, one more; the beginnings of a block's bytes; an append that leaves the elder row to be read; no condition.
-/
import Derived.Test.YtoinanbpiemfoaaBka
import Derived.Test.YtoinanbpiemfoaaBase
namespace Go.Proofs.Ytoinanbpiemfoaa
open Go.RowKit Go.WideShapes Go.ChangeShapes
set_option linter.all false
theorem asc_snoc {y : Nat} (hy : y ≤ 1073741824) : ∀ (ls : List Nat) (p : Nat), ascB p ls = true → (∀ z, ls.getLast? = some z → z < y) → (ls = [] → p ≤ y) → ascB p (ls ++ [y]) = true
  | [], p, _, _, h => ascB_cons.2 ⟨h rfl, hy, rfl⟩
  | x :: r, p, ha, hl, _ => by
    obtain ⟨h1, h2, h3⟩ := ascB_cons.1 ha
    refine ascB_cons.2 ⟨h1, h2, asc_snoc hy r (x + 1) h3 (fun z hz => hl z ?_) (fun e => ?_)⟩
    · cases r with
      | nil => simp at hz
      | cons a b => rw [List.getLast?_cons_cons]; exact hz
    · subst e; have := hl x rfl; omega
theorem asc_dup {x : Nat} : ∀ (ls : List Nat) (p : Nat), ls.getLast? = some x → ascB p (ls ++ [x]) = false
  | [], _, h => by simp at h
  | [a], p, h => by
    simp only [List.getLast?_singleton, Option.some.injEq] at h
    subst h
    simp [ascB]
    omega
  | a :: b :: r, p, h => by
    rw [List.getLast?_cons_cons] at h
    have := asc_dup (b :: r) (a + 1) h
    rw [List.cons_append, ascB, this, Bool.and_false]
/-- Rising ids, x the last. -/
structure Up (ls : List Nat) (x : Nat) : Prop where
  asc : ascB 0 ls = true
  last : ls.getLast? = some x
theorem Up.snoc {ls : List Nat} {x y : Nat} (h : Up ls x) (hxy : x < y) (hy : y ≤ 1073741824) : Up (ls ++ [y]) y :=
  ⟨asc_snoc hy ls 0 h.asc (fun z hz => by rw [h.last] at hz; injection hz with hz; omega) (fun _ => Nat.zero_le _), by simp⟩
theorem Up.ne {ls : List Nat} {x : Nat} (h : Up ls x) : 1 ≤ ls.length := by
  cases ls with
  | nil => have := h.last; simp at this
  | cons a r => simp
theorem Up.right {ls : List Nat} {x : Nat} (h : Up ls x) (hl : ls.length ≤ 16) : rightN ls = true := by
  unfold rightN; rw [Bool.and_eq_true, decide_eq_true_eq]; exact ⟨⟨h.ne, hl⟩, h.asc⟩
theorem Up.dup {ls : List Nat} {x : Nat} (h : Up ls x) : rightI (nb (ls ++ [x])) = false := by
  rw [show nb (ls ++ [x]) = (ls ++ [x]).map Nat.cast from rfl, rightI_cast]
  unfold rightN; rw [asc_dup ls 0 h.last, Bool.and_false]
theorem right_long {ls : List Nat} (h : 16 < ls.length) : rightI (nb ls) = false := right_no (by rw [nb_len]; omega)
theorem enc_ge : ∀ (ls : List Nat) (p : Nat), ls.length ≤ (encGo p ls).length
  | [], _ => Nat.zero_le _
  | x :: r, p => by
    have := numL_ne (x - p)
    have := enc_ge r (x + 1)
    rw [encGo, List.length_append, List.length_cons]; omega
theorem enc_prefix : ∀ (x l : List Nat) (p : Nat) (t : List Nat), ascB p x = true → ascB p l = true → encGo p x ++ t = encGo p l → x = l.take x.length ∧ x.length ≤ l.length
  | [], l, _, _, _, _, _ => by simp
  | a :: x, [], p, t, _, _, h => by
    have hne := numL_ne (a - p)
    rw [encGo, encGo, List.append_assoc, List.append_eq_nil_iff] at h
    rw [h.1] at hne
    simp at hne
  | a :: x, c :: l, p, t, hx, hl, h => by
    obtain ⟨h1, h2, h3⟩ := ascB_cons.1 hx
    obtain ⟨k1, k2, k3⟩ := ascB_cons.1 hl
    rw [encGo, encGo, List.append_assoc] at h
    have e1 := numP_numL (a - p) (a - p) 0 0 (encGo (a + 1) x ++ t) (Nat.le_refl _) (by omega) (by show a - p < 34359738368; omega)
    have e2 := numP_numL (c - p) (c - p) 0 0 (encGo (c + 1) l) (Nat.le_refl _) (by omega) (by show c - p < 34359738368; omega)
    rw [h, e2] at e1
    simp only [Nat.pow_zero, Nat.mul_one, Nat.zero_add, Prod.mk.injEq] at e1
    have hac : a = c := by omega
    subst hac
    have h' := List.append_cancel_left h
    obtain ⟨q1, q2⟩ := enc_prefix x l (a + 1) t h3 k3 h'
    refine ⟨?_, by simp; omega⟩
    rw [List.length_cons, List.take_succ_cons, ← q1]
theorem dec_prefix {ls x : List Nat} {k : Nat} (hr : rightN ls = true) (h : decP ((encGo 0 ls).take k) = some x) : nb x = (nb ls).take x.length ∧ x.length ≤ ls.length := by
  obtain ⟨h1, h2⟩ := (decP_iff _ _).1 h
  unfold rightN at hr h1
  rw [Bool.and_eq_true] at hr h1
  obtain ⟨q1, q2⟩ := enc_prefix x ls 0 ((encGo 0 ls).drop k) h1.2 hr.2 (by rw [h2, List.take_append_drop])
  exact ⟨by rw [← nb_take, ← q1], q2⟩
section
variable {w w' : World} {base size n : Nat} {t : TypeId} {v : Value} {xs : List Value} {P : Program}
theorem Mid.lit (hb : base ≤ w.heap.size) (u : Value) : Mid (w.alloc (.cells #[u] t)) base t 1 (.slice (some ⟨w.heap.size, 0, none⟩) 1 1) 1 [u] :=
  ⟨rfl, .inr ⟨_, 0, 1, #[u], rfl, hb, heap_alloc_new w _, Nat.le_refl _, by unfold maxLen; omega, by simp, rfl⟩⟩
theorem Mid.empty (hb : base ≤ w.heap.size) : Mid (w.alloc (.cells #[] t)) base t 1 (.slice (some ⟨w.heap.size, 0, none⟩) 0 0) 0 [] :=
  ⟨rfl, .inr ⟨_, 0, 0, #[], rfl, hb, heap_alloc_new w _, Nat.le_refl _, by unfold maxLen; omega, by simp, rfl⟩⟩
theorem Reads.cells {B m : Nat} {a : Addr} (h : Reads w B 1 (some a) m xs) : ∀ j u, xs[j]? = some u → w.cell? (a.add j) = some u := fun j u hu => by
  have hj : j < m := by
    have := (List.getElem?_eq_some_iff.1 hu).1
    have := h.1; omega
  obtain ⟨ad, e, _, hc⟩ := h.2 (by omega)
  injection e with e
  subst e
  exact hc j u hu
theorem below_fresh {n c : Nat} {v' : Value} {o : Obj} (h : Ran (.slice (some ⟨w.heap.size, 0, none⟩) n c) v' (w.alloc o) w') : Below w.heap.size w w' :=
  ((Below.refl _ _).alloc (Nat.le_refl _) o).grown h.grown (by simp) fun g hg => by simp [Value.ownBlock] at hg; omega
theorem run_append_keep (ty e : TypeId) (t : TypeId) (i : TypeInfo) (z : Value) (bytes : Nat) (ht : P.underlying t = some (.slice e)) (hi : P.info? e = some i) (hz : i.zero = some z)
    (hsize : i.size = size) (hby : i.bytes = bytes) (hzs : z.cells.size = size) (hsz : 0 < size) (h : Mid w base e size v n xs)
    (ad : Addr) (m c : Nat) (news : List Value) (hl : news.length = m * size) (hnews : ∀ j u, news[j]? = some u → w.cell? (ad.add j) = some u) (h1 : ∀ u ∈ news, u.oneCell' = true)
    (h63 : n + m ≤ maxLen) (hbytes : (n + m) * bytes ≤ 140737488355328) (hbase : base ≤ w.heap.size) :
    ∃ v' w', (Builtin.append_ #[t, t] ty #[v, .slice (some ad) m c]).run P w = .ok v' w' ∧ Mid w' base e size v' (n + m) (xs ++ news) ∧ Ran v v' w w' ∧ Mid w' base e size v n xs := by
  rcases h.2 with ⟨rfl, rfl⟩ | ⟨g, off, cap, cur, rfl, hb, hh, hn, hc, hs, hx⟩
  · have hx0 : xs = [] := List.eq_nil_of_length_eq_zero (by simpa using h.1)
    subst hx0
    obtain ⟨v', w', a, b, d⟩ := run_append_mid (P := P) ty e t i z bytes ht hi hz hsize hby hzs hsz h ad m c news hl hnews h1 h63 hbytes hbase
    exact ⟨v', w', a, b, d, Mid.nil _ _ _ _⟩
  · by_cases hr : n + m ≤ cap
    · have hml : (n + m) * size ≤ cap * size := Nat.mul_le_mul_right _ hr
      have hnl : (n + m) * size = n * size + m * size := Nat.add_mul _ _ _
      have hb1 : off + n * size + news.length ≤ cur.size := by rw [hl]; omega
      subst hsize
      have hcell : ∀ j, j < news.length → (w.cell? ⟨g, off + n * i.size + j, none⟩).isSome = true := fun j hj => by
        simp only [World.cell?, hh]
        rw [Array.getElem?_eq_getElem (show off + n * i.size + j < cur.size by omega)]; rfl
      have hrun := run_append_room_cells (P := P) w t ty e i ht hi g off n cap ad m c news hl hnews h1 hr hcell (fun j hj => by simp [World.frozen?, hh])
      obtain ⟨c', a1, a2, a3, a4⟩ := heap_setCells_same news (off + n * i.size) w cur e hh hb1
      have q1 : (c'.toList.drop off).take (n * i.size) = xs := by
        rw [← hx, List.take_drop, List.take_drop, a3]
      refine ⟨_, _, hrun, ⟨by rw [List.length_append, h.1, hl, Nat.add_mul], .inr ⟨g, off, cap, c', rfl, hb, a1, hr, hc, by omega, ?_⟩⟩, ⟨⟨(World.keptBut_setCells g (may := fun _ => True) news _ w (fun _ _ => trivial)).1, tape_setCells _ _ _ _, (World.keptBut_setCells g (may := fun _ => True) news _ w (fun _ _ => trivial)).2.1, by rw [size_setCells_]; exact Nat.le_refl _, fun k hk hr' => World.heap_setCells_other w g _ news hk (fun e => hr' (by rw [e]; rfl))⟩, .inl rfl⟩, ⟨h.1, .inr ⟨g, off, cap, c', rfl, hb, a1, hn, hc, by omega, q1⟩⟩⟩
      rw [hnl, List.take_add, q1, List.drop_drop, ← hl, a4]
    · obtain ⟨v', w', hrun, r1, r2⟩ := run_append_arg_grows (P := P) w t ty e i z size bytes ht hi hz hsize hby hzs hsz ⟨g, off, none⟩ n cap xs h.1 (fun j u hj => by rw [Addr.add_lit]; exact h.cells j u hj) ad m c news hl hnews (by omega) h63 hbytes
      have hm := Mid.of_own r1
      refine ⟨v', w', hrun, ⟨hm.1, ?_⟩, ⟨⟨r2.os, r2.tape, r2.output, r2.size, fun k hk _ => r2.block k hk (by simp)⟩, .inr fun g hg => (hm.lt g hg).1⟩, h.same fun g hg => r2.block g (h.lt g hg).2 (by simp)⟩
      rcases hm.2 with h' | ⟨g, off, cap, cur, hv, hb, rest⟩
      · exact .inl h'
      · exact .inr ⟨g, off, cap, cur, hv, by omega, rest⟩
theorem wpList_append_keep {ops : Array Oper} {rest : List Oper} {o : Oper} {a : Act} {Q : Exit → Act → World → Prop} (hw : Region.wanted o (yielded ops a.tmps) = true) (s x : Operand) (t : TypeId)
    (ho : o.op = .call { callee := .builtin .append, args := #[s, x], argTypes := #[t, t] })
    (base : Nat) (e : TypeId) (i : TypeInfo) (z : Value) (size bytes : Nat) (ht : P.underlying t = some (.slice e)) (hi : P.info? e = some i) (hz : i.zero = some z)
    (hsize : i.size = size) (hby : i.bytes = bytes) (hzs : z.cells.size = size) (hsz : 0 < size) (v : Value) (n : Nat) (xs : List Value) (hs : a.eval s = v) (h : Mid w base e size v n xs)
    (ad : Addr) (m c : Nat) (news : List Value) (hx : a.eval x = .slice (some ad) m c) (hl : news.length = m * size) (hnews : ∀ j u, news[j]? = some u → w.cell? (ad.add j) = some u) (h1 : ∀ u ∈ news, u.oneCell' = true)
    (h63 : n + m ≤ maxLen) (hbytes : (n + m) * bytes ≤ 140737488355328) (hbase : base ≤ w.heap.size)
    (hK : ∀ v' w', Mid w' base e size v' (n + m) (xs ++ news) → Ran v v' w w' → Mid w' base e size v n xs → wpList P ops Q rest (a.put o.dst v') w') : wpList P ops Q (o :: rest) a w := by
  refine BigFrame.wpList_want hw fun K hK' => ?_
  obtain ⟨v', w', hrun, h2, h3, h4⟩ := run_append_keep (P := P) o.type e t i z bytes ht hi hz hsize hby hzs hsz h ad m c news hl hnews h1 h63 hbytes hbase
  unfold Oper.wp execOp
  simp only [ho, resolve, invoke, builtin, Sem.run_bind, Sem.run_pure, Result.andThen_ok, List.map_toArray, List.map_cons, List.map_nil, hs, hx, hrun]
  exact hK' _ _ (hK v' w' h2 h3 h4)
end
end Go.Proofs.Ytoinanbpiemfoaa
