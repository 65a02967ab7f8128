/-
  slices.Insert of one, slices.Delete of one, slices.BinarySearch, at rising ids in a row of the call's own; conditions: lengths.
-/
import Derived.Test.YtokjeglhmmijfaaIns
import Derived.Test.YtokjeglhmmijfaaBk7
import Derived.Test.YtokjeglhmmijfaaPs1
import Derived.Test.YtokjeglhmmijfaaSrc
namespace Go.Proofs.Ytokjeglhmmijfaa
open Go.RowKit Go.WideShapes Go.ChangeShapes
set_option linter.all false
section
variable {P : Program} {w : World} {size n : Nat} {xs : List Value}
theorem wpList_append_src {ops : Array Oper} {rest : List Oper} {o : Oper} {a : Act} {Q : Exit → Act → World → Prop} (hg : o.guard = none) (s x : Operand) (t : TypeId)
    (ho : o.op = .call { callee := .builtin .append, args := #[s, x], argTypes := #[t, t] })
    (base : Nat) (e : TypeId) (i : TypeInfo) (z : Value) (size bytes : Nat) (ht : P.underlying t = some (.slice e)) (hi : P.info? e = some i) (hz : i.zero = some z)
    (hsize : i.size = size) (hby : i.bytes = bytes) (hzs : z.cells.size = size) (hsz : 0 < size) (v : Value) (n : Nat) (xs : List Value) (hs : a.eval s = v) (h : Mid w base e size v n xs)
    (B : Nat) (A : Option Addr) (m c : Nat) (news : List Value) (hx : a.eval x = .slice A m c) (hr : Reads w B size A m news) (h1 : ∀ u ∈ news, u.oneCell' = true)
    (h63 : n + m ≤ maxLen) (hbytes : (n + m) * bytes ≤ 140737488355328) (hbase : base ≤ w.heap.size)
    (hK : ∀ v' w', Mid w' base e size v' (n + m) (xs ++ news) → Ran v v' w w' → wpList P ops Q rest (a.put o.dst v') w') : wpList P ops Q (o :: rest) a w :=
  wpList_plain hg fun K hK' => by
    obtain ⟨v', w', hrun, h2, h3⟩ := run_append_src (P := P) o.type e t i z bytes ht hi hz hsize hby hzs hsz h B A m c news hr h1 h63 hbytes hbase
    unfold Oper.wp execOp
    simp only [ho, resolve, invoke, builtin, Sem.run_bind, Sem.run_pure, Result.andThen_ok, List.map_toArray, List.map_cons, List.map_nil, hs, hx, hrun]
    exact hK' _ _ (hK v' w' h2 h3)
end
theorem Mid.caps {w : World} {N n c size : Nat} {t : TypeId} {A : Option Addr} {xs : List Value} (h : Mid w N t size (.slice A n c) n xs) : n ≤ c ∧ c ≤ maxLen := by
  rcases h.2 with ⟨h', h0⟩ | ⟨g, off, cap, cur, h', hb, hh, h1, h2, _⟩
  · injection h' with h1 h2 h3; subst h3; exact ⟨by omega, Nat.zero_le _⟩
  · injection h' with h3 h4 h5; subst h5; exact ⟨h1, h2⟩
theorem cell_of {w : World} {b : Nat} {cs : Array Value} {T : TypeId} {fr : Nat × Nat} (hb : w.heap[b]? = some (.cells cs T fr)) (j : Nat) : w.cell? ⟨b, j, none⟩ = cs[j]? := by simp [World.cell?, hb]
theorem frozen_of {w : World} {b : Nat} {cs : Array Value} {T : TypeId} (hb : w.heap[b]? = some (.cells cs T (0, 0))) (j : Nat) : w.frozen? ⟨b, j, none⟩ = false := by simp [World.frozen?, hb]
theorem ins_get {α : Type} (xs : List α) (x : α) (i k : Nat) (hi : i ≤ xs.length) : (xs.take i ++ x :: xs.drop i)[k]? = if k < i then xs[k]? else if k = i then some x else xs[k - 1]? := by
  have hl : (xs.take i).length = i := by simp [Nat.min_eq_left hi]
  by_cases h1 : k < i
  · rw [if_pos h1, List.getElem?_append_left (by rw [hl]; exact h1), List.getElem?_take, if_pos h1]
  · rw [if_neg h1, List.getElem?_append_right (by rw [hl]; omega), hl]
    by_cases h2 : k = i
    · subst h2; simp
    · rw [if_neg h2]
      obtain ⟨d, hd⟩ : ∃ d, k - i = d + 1 := ⟨k - i - 1, by omega⟩
      rw [hd, List.getElem?_cons_succ, List.getElem?_drop]
      congr 1; omega
theorem ins_len {α : Type} (xs : List α) (x : α) (i : Nat) : (xs.take i ++ x :: xs.drop i).length = xs.length + 1 := by simp; omega
/-- A row from what its cells hold. -/
theorem Mid.of_get {w : World} {base n g off cap : Nat} {t : TypeId} {xs : List Value} {cur : Array Value} (hl : xs.length = n) (hb : base ≤ g) (hg : w.heap[g]? = some (.cells cur t (0, 0))) (hn : n ≤ cap) (hc : cap ≤ maxLen) (hs : off + cap ≤ cur.size)
    (h : ∀ k, k < n → cur[off + k]? = xs[k]?) : Mid w base t 1 (.slice (some ⟨g, off, none⟩) n cap) n xs := by
  refine ⟨by omega, .inr ⟨g, off, cap, cur, rfl, hb, hg, hn, hc, by omega, ?_⟩⟩
  apply List.ext_getElem?
  intro k
  rw [List.getElem?_take, Nat.mul_one]
  split
  · rename_i hk
    rw [List.getElem?_drop, ← h k hk]; simp
  · rename_i hk
    exact (List.getElem?_eq_none (by omega)).symm
theorem heap_setCells_out {b g : Nat} (h : g ≠ b) : ∀ (vs : List Value) (o : Nat) (w : World), (w.setCells b o vs).heap[g]? = w.heap[g]?
  | [], _, _ => rfl
  | v :: r, o, w => by rw [World.setCells, heap_setCells_out h r]; exact heap_setCell_other _ _ _ _ h
theorem tape_sc (b : Nat) : ∀ (vs : List Value) (o : Nat) (w : World), (w.setCells b o vs).tape = w.tape ∧ (w.setCells b o vs).os = w.os ∧ (w.setCells b o vs).output = w.output
  | [], _, _ => ⟨rfl, rfl, rfl⟩
  | v :: r, o, w => by rw [World.setCells]; exact tape_sc b r _ _
theorem two_sets {w : World} {g off n cap i : Nat} {t : TypeId} {xs : List Value} {x : Value} {cur : Array Value} (hg : w.heap[g]? = some (.cells cur t (0, 0))) (hl : xs.length = n) (hi : i ≤ n) (hs : off + (n + 1) ≤ cur.size) (h : ∀ k, k < i → cur[off + k]? = xs[k]?) :
    ∃ c', ((w.setCells g (off + (i + 1)) (xs.drop i)).setCells g (off + i) [x]).heap[g]? = some (.cells c' t (0, 0)) ∧ c'.size = cur.size ∧ ∀ k, k < n + 1 → c'[off + k]? = (xs.take i ++ x :: xs.drop i)[k]? := by
  have hdl : (xs.drop i).length = n - i := by rw [List.length_drop, hl]
  obtain ⟨c1, a1, a2, a3, a4⟩ := heap_setCells_same (xs.drop i) (off + (i + 1)) w cur t hg (by omega)
  refine ⟨c1.setIfInBounds (off + i) x, ?_, by simp [a2], fun k hk => ?_⟩
  · show ((w.setCells g (off + (i + 1)) (xs.drop i)).setCell ⟨g, off + i, none⟩ x).heap[g]? = _
    exact heap_setCell_same _ _ _ _ _ _ a1
  · rw [ins_get xs x i k (by omega), Array.getElem?_setIfInBounds]
    by_cases h1 : k < i
    · rw [if_neg (by omega), if_pos h1, ← h k h1]
      have := congrArg (fun l => l[off + k]?) a3
      simp only [List.getElem?_take] at this
      rw [if_pos (by omega), if_pos (by omega)] at this
      simpa using this
    · rw [if_neg h1]
      by_cases h2 : k = i
      · subst h2; rw [if_pos rfl, if_pos rfl, if_pos (by omega)]
      · rw [if_neg (by omega), if_neg h2]
        have := congrArg (fun l => l[k - 1 - i]?) a4
        simp only [List.getElem?_take, List.getElem?_drop] at this
        rw [if_pos (by omega)] at this
        have e1 : off + (i + 1) + (k - 1 - i) = off + k := by omega
        have e2 : i + (k - 1 - i) = k - 1 := by omega
        rw [e1, e2] at this
        simpa using this
theorem two_sets2 {w : World} {g n i : Nat} {t : TypeId} {xs : List Value} {x : Value} {cur : Array Value} (hg : w.heap[g]? = some (.cells cur t (0, 0))) (hl : xs.length = n) (hi : i ≤ n) (hs : n + 1 ≤ cur.size) (h : ∀ k, k < i → cur[k]? = xs[k]?) :
    ∃ c', ((w.setCells g i [x]).drew.setCells g (i + 1) (xs.drop i)).heap[g]? = some (.cells c' t (0, 0)) ∧ c'.size = cur.size ∧ ∀ k, k < n + 1 → c'[0 + k]? = (xs.take i ++ x :: xs.drop i)[k]? := by
  have hdl : (xs.drop i).length = n - i := by rw [List.length_drop, hl]
  have h0 : (w.setCells g i [x]).drew.heap[g]? = some (.cells (cur.setIfInBounds i x) t (0, 0)) := heap_setCell_same _ _ _ _ _ _ hg
  obtain ⟨c1, a1, a2, a3, a4⟩ := heap_setCells_same (xs.drop i) (i + 1) _ _ t h0 (by simp; omega)
  refine ⟨c1, a1, by rw [a2]; simp, fun k hk => ?_⟩
  rw [ins_get xs x i k (by omega), Nat.zero_add]
  by_cases h1 : k < i + 1
  · have := congrArg (fun l => l[k]?) a3
    simp only [List.getElem?_take] at this
    rw [if_pos h1, if_pos h1] at this
    rw [Array.getElem?_toList, Array.getElem?_toList, Array.getElem?_setIfInBounds] at this
    rw [this]
    by_cases h2 : k = i
    · subst h2; rw [if_pos rfl, if_pos (by omega), if_neg (by omega), if_pos rfl]
    · rw [if_neg (by omega), if_pos (by omega)]; exact h k (by omega)
  · rw [if_neg (by omega), if_neg (by omega)]
    have := congrArg (fun l => l[k - 1 - i]?) a4
    simp only [List.getElem?_take, List.getElem?_drop] at this
    rw [if_pos (by omega)] at this
    have e1 : i + 1 + (k - 1 - i) = k := by omega
    have e2 : i + (k - 1 - i) = k - 1 := by omega
    rw [e1, e2] at this
    simpa using this
set_option maxRecDepth 100000 in
set_option maxHeartbeats 1600000 in
theorem ins_mid_int (base : Nat) (A : Option Addr) (n c i : Nat) (xs : List Value) (x : Value) (vb vc : Nat) (w : World) (hm : Mid w base 3 1 (.slice A n c) n xs) (hi : i ≤ n) (hn : n ≤ 100000) (hbase : base ≤ w.heap.size)
    (hvb : w.heap[vb]? = some (.cells #[x] 3 (0, 0))) (hsep : ∀ g, (Value.slice A n c).ownBlock = some g → g ≠ vb) (h1 : ∀ u ∈ xs, u.oneCell' = true) (h1x : x.oneCell' = true) :
    Calls Try.prog 37 #[.slice A n c, .int .i64 i, .slice (some ⟨vb, 0, none⟩) 1 vc] w fun e w' => ∃ v', e = .returned v' ∧ Mid w' base 3 1 v' (n + 1) (xs.take i ++ x :: xs.drop i) ∧ Ran (.slice A n c) v' w w' := by
  have hvlt : vb < w.heap.size := by
    rcases Nat.lt_or_ge vb w.heap.size with q | q
    · exact q
    · rw [Array.getElem?_eq_none q] at hvb; cases hvb
  have hvs : ∀ j v, [x][j]? = some v → w.cell? ⟨vb, 0 + j, none⟩ = some v := fun j v hj => by
    rw [cell_of hvb, Nat.zero_add]; simpa using hj
  have hl : xs.length = n := by have := hm.1; omega
  by_cases hin : i < n
  · rcases hm.2 with ⟨h', h0⟩ | ⟨g, off, cap, cur, h', hb, hh, hnc, hcm, hs, hx⟩
    · omega
    · injection h' with q1 q2 q3
      subst q1; subst q3
      have hgv : g ≠ vb := hsep g rfl
      have hcs := hm.cells
      have hgl : g < w.heap.size := (hm.lt g rfl).2
      have hget : ∀ k, k < n → cur[off + k]? = xs[k]? := fun k hk => by
        rw [← hx, List.getElem?_take, if_pos (by omega), List.getElem?_drop]; simp
      by_cases hroom : n + 1 ≤ c
      · refine (ins_shift_int g off n c i vb 0 vc xs [x] w hin hroom (by omega) (Ne.symm hgv) hl rfl hcs (fun j hj => ?_) (fun j hj => frozen_of hh _) hvs h1 (fun v hv => by simp at hv; subst hv; exact h1x) 3 3 1 cur.size (by simp [World.shape?, hvb]) (by simp [World.shape?, hh]) (by omega) (frozen_of hvb _) (frozen_of hvb _)).mono ?_
        · rw [cell_of hh, Array.getElem?_eq_getElem (show off + j < cur.size by omega)]; rfl
        · rintro e w' ⟨rfl, rfl⟩
          obtain ⟨c', a1, a2, a3⟩ := two_sets (w := w.drew) (x := x) (i := i) (cap := c) (xs := xs) (n := n) (off := off) hh hl (by omega) (by omega) (fun k hk => hget k (by omega))
          refine ⟨_, rfl, Mid.of_get (by rw [ins_len, hl]) hb a1 hroom hcm (by omega) a3, ⟨?_, .inl rfl⟩⟩
          have t1 := tape_sc g [x] (off + i) (w.drew.setCells g (off + (i + 1)) (xs.drop i))
          have t2 := tape_sc g (xs.drop i) (off + (i + 1)) w.drew
          exact ⟨t1.2.1.trans t2.2.1, t1.1.trans t2.1, t1.2.2.trans t2.2.2, by rw [size_setCells_, size_setCells_]; exact Nat.le_refl _, fun k hk hr => by
            have hkg : k ≠ g := fun e => hr (by rw [e]; rfl)
            rw [heap_setCells_out hkg, heap_setCells_out hkg]; rfl⟩
      · obtain rfl : c = n := by omega
        refine (ins_grow_int g off c i vb 0 vc xs [x] w hin (by omega) hvlt hgl hl rfl hcs hvs h1 (fun v hv => by simp at hv; subst hv; exact h1x)).mono ?_
        rintro e w' ⟨rfl, rfl⟩
        have hcap := grownCap_ge w (c + 1) c 3
        have hcap2 := grownCap_le_maxLen w (c + 1) c 3 (by unfold maxLen; omega)
        have hz1 : ∀ k, (Builtin.zeroCells (Value.int .i64 0).cells k).size = k := fun k => by rw [size_zeroCells]; exact Nat.mul_one k
        have htk : (xs.take i).toArray.size = i := by simp; omega
        obtain ⟨c', a1, a2, a3⟩ := two_sets2 (w := w.drew.alloc (.cells ((xs.take i).toArray ++ Builtin.zeroCells (Value.int .i64 0).cells (c + 1 - i) ++ Builtin.zeroCells (Value.int .i64 0).cells (grownCap w (c + 1) c 3 - (c + 1))) 3)) (g := w.heap.size) (x := x) (xs := xs) (n := c) (i := i)
          (heap_alloc_new _ _) hl (by omega) (by rw [Array.size_append, Array.size_append, htk, hz1, hz1]; omega) (fun k hk => by
            rw [Array.getElem?_append_left (by rw [Array.size_append, htk, hz1]; omega), Array.getElem?_append_left (by rw [htk]; omega), List.getElem?_toArray, List.getElem?_take, if_pos hk])
        rw [Array.size_append, Array.size_append, htk, hz1, hz1] at a2
        refine ⟨_, rfl, Mid.of_get (by rw [ins_len, hl]) hbase a1 hcap hcap2 (by omega) a3, ⟨?_, .inr fun g' hg' => by injection hg' with hg'; exact Nat.le_of_eq hg'⟩⟩
        refine ⟨(tape_sc _ _ _ _).2.1, (tape_sc _ _ _ _).1, (tape_sc _ _ _ _).2.2, ?_, fun k hk hr => ?_⟩
        · rw [size_setCells_]
          show _ ≤ (World.setCells _ _ _ _).heap.size
          rw [size_setCells_]; simp
        · rw [heap_setCells_out (by omega)]
          show (World.setCells _ _ _ _).heap[k]? = _
          rw [heap_setCells_out (by omega)]
          exact heap_alloc_old _ _ hk
  · obtain rfl : i = n := by omega
    obtain ⟨ib, bi, bz0, bz1, bz2⟩ := info_parts infoI
    have hx : Reads w w.heap.size 1 (some ⟨vb, 0, none⟩) 1 [x] := ⟨rfl, fun _ => ⟨_, rfl, hvlt, fun j u hj => by rw [Addr.add_lit]; exact hvs j u hj⟩⟩
    have hic : (i : Int) ≤ (c : Int) := by have := hm.caps.1; omega
    have HX := Lib.hid hx
    have HM := Lib.hid hm
    clear hx hm hvs hvb hsep
    have hlist : xs ++ [x] = xs.take i ++ x :: xs.drop i := by rw [List.take_of_length_le (by omega), List.drop_eq_nil_of_le (by omega)]
    by_cases hci : c = i
    · subst hci
      go_enter Try.func37, Try.ntmps37
      go_wp2_with (first
        | (refine wpList_append_src rfl (.tmp 23) (.tmp 24) 28 rfl base 3 ib _ 1 8 Try.underlying28 bi bz0 bz1 bz2 rfl (by omega) (.slice A c c) c xs rfl HM.out w.heap.size _ 1 vc [x] rfl HX.out (fun v hv => by simp at hv; subst hv; exact h1x) (by unfold maxLen; omega) (by omega) hbase ?_
           intro v1 w1 hm1 hr1
           rw [hlist] at hm1
           have HM1 := Lib.hid hm1
           have HR1 := Lib.hid hr1
           clear hm1 hr1)
        | fail)
      go_ret
      exact ⟨_, rfl, HM1.out, HR1.out⟩
    · skip
      go_enter Try.func37, Try.ntmps37
      go_wp2_with (first
        | (refine wpList_append_src rfl (.tmp 23) (.tmp 24) 28 rfl base 3 ib _ 1 8 Try.underlying28 bi bz0 bz1 bz2 rfl (by omega) (.slice A i c) i xs rfl HM.out w.heap.size _ 1 vc [x] rfl HX.out (fun v hv => by simp at hv; subst hv; exact h1x) (by unfold maxLen; omega) (by omega) hbase ?_
           intro v1 w1 hm1 hr1
           rw [hlist] at hm1
           have HM1 := Lib.hid hm1
           have HR1 := Lib.hid hr1
           clear hm1 hr1)
        | fail)
      go_ret
      exact ⟨_, rfl, HM1.out, HR1.out⟩
theorem two_dels {w : World} {g off n i : Nat} {t : TypeId} {xs : List Value} {z : Value} {cur : Array Value} (hg : w.heap[g]? = some (.cells cur t (0, 0))) (hl : xs.length = n) (hi : i < n) (hs : off + n ≤ cur.size) (h : ∀ k, k < n → cur[off + k]? = xs[k]?) :
    ∃ c', ((w.setCells g (off + i) (xs.drop (i + 1))).setCells g (off + (n - 1)) [z]).heap[g]? = some (.cells c' t (0, 0)) ∧ c'.size = cur.size ∧ ∀ k, k < n - 1 → c'[off + k]? = (xs.take i ++ xs.drop (i + 1))[k]? := by
  have hdl : (xs.drop (i + 1)).length = n - (i + 1) := by rw [List.length_drop, hl]
  obtain ⟨c1, a1, a2, a3, a4⟩ := heap_setCells_same (xs.drop (i + 1)) (off + i) w cur t hg (by omega)
  refine ⟨c1.setIfInBounds (off + (n - 1)) z, ?_, by simp [a2], fun k hk => ?_⟩
  · show ((w.setCells g (off + i) (xs.drop (i + 1))).setCell ⟨g, off + (n - 1), none⟩ z).heap[g]? = _
    exact heap_setCell_same _ _ _ _ _ _ a1
  · rw [Array.getElem?_setIfInBounds, if_neg (by omega)]
    have hti : (xs.take i).length = i := by rw [List.length_take]; omega
    by_cases h1 : k < i
    · rw [List.getElem?_append_left (by omega), List.getElem?_take, if_pos h1, ← h k (by omega)]
      have := congrArg (fun l => l[off + k]?) a3
      simp only [List.getElem?_take] at this
      rw [if_pos (by omega), if_pos (by omega)] at this
      simpa using this
    · rw [List.getElem?_append_right (by omega), hti]
      have := congrArg (fun l => l[k - i]?) a4
      simp only [List.getElem?_take, List.getElem?_drop] at this
      rw [if_pos (by omega)] at this
      have e1 : off + i + (k - i) = off + k := by omega
      rw [e1] at this
      rw [List.getElem?_drop]
      simpa using this
set_option maxRecDepth 100000 in
set_option maxHeartbeats 3200000 in
theorem del_mid_int (base g off n c i : Nat) (xs : List Value) (w : World) (hm : Mid w base 3 1 (.slice (some ⟨g, off, none⟩) n c) n xs) (hi : i < n) (hn : n ≤ 100000) (h1 : ∀ u ∈ xs, u.oneCell' = true) :
    Calls Try.prog 38 #[.slice (some ⟨g, off, none⟩) n c, .int .i64 i, .int .i64 ((i : Int) + 1)] w fun e w' => e = .returned (.slice (some ⟨g, off, none⟩) (n - 1) c) ∧ Mid w' base 3 1 (.slice (some ⟨g, off, none⟩) (n - 1) c) (n - 1) (xs.take i ++ xs.drop (i + 1)) ∧ Ran (.slice (some ⟨g, off, none⟩) n c) (.slice (some ⟨g, off, none⟩) (n - 1) c) w w' := by
  have hl : xs.length = n := by have := hm.1; omega
  rcases hm.2 with ⟨h', h0⟩ | ⟨g', off', cap, cur, h', hb, hh, hnc, hcm, hs, hx⟩
  · cases h'
  · simp only [Value.slice.injEq, Option.some.injEq, Addr.mk.injEq, and_true, true_and] at h'
    obtain ⟨⟨rfl, rfl⟩, rfl⟩ := h'
    refine (del_int g off n c i xs w hi hnc (by omega) hl hm.cells (fun j hj => ?_) (fun j hj => frozen_of hh _) h1).mono ?_
    · rw [cell_of hh, Array.getElem?_eq_getElem (show off + j < cur.size by omega)]; rfl
    · rintro e w' ⟨rfl, rfl⟩
      obtain ⟨c', a1, a2, a3⟩ := two_dels (w := w.drew) (z := (.int .i64 0)) (i := i) (xs := xs) (n := n) (off := off) hh hl hi (by omega) (fun k hk => by rw [← hx, List.getElem?_take, if_pos (by omega), List.getElem?_drop]; simp)
      refine ⟨rfl, Mid.of_get (by simp; omega) hb a1 (by omega) hcm (by omega) a3, ⟨?_, .inl rfl⟩⟩
      have t1 := tape_sc g [(.int .i64 0)] (off + (n - 1)) (w.drew.setCells g (off + i) (xs.drop (i + 1)))
      have t2 := tape_sc g (xs.drop (i + 1)) (off + i) w.drew
      exact ⟨t1.2.1.trans t2.2.1, t1.1.trans t2.1, t1.2.2.trans t2.2.2, by rw [size_setCells_, size_setCells_]; exact Nat.le_refl _, fun k hk hr => by
        have hkg : k ≠ g := fun e => hr (by rw [e]; rfl)
        rw [heap_setCells_out hkg, heap_setCells_out hkg]; rfl⟩
theorem nlow_is (x : Int) : ∀ (l : List Nat) (k : Nat), k ≤ l.length → (∀ i, i < k → ((l.getD i 0 : Nat) : Int) < x) → (k < l.length → ¬ ((l.getD k 0 : Nat) : Int) < x) → lowI x l = k
  | [], k, hk, _, _ => by simp at hk; subst hk; rfl
  | e :: l, 0, _, _, h => by
    have := h (by simp)
    simp only [List.getD_cons_zero] at this
    unfold lowI
    rw [if_neg this]
  | e :: l, k + 1, hk, h, g => by
    have h0 := h 0 (by omega)
    simp only [List.getD_cons_zero] at h0
    unfold lowI
    rw [if_pos h0, nlow_is x l k (by simpa using hk) (fun i hi => by simpa using h (i + 1) (by omega)) (fun q => by simpa using g (by simpa using q))]
/-- Is it there? -/
def isI (x : Int) (l : List Nat) : Bool := decide (lowI x l < l.length ∧ ((l.getD (lowI x l) 0 : Nat) : Int) = x)
theorem asc_lt {l : List Nat} {p : Nat} (h : ascB p l = true) {i j : Nat} (hij : i ≤ j) (hj : j < l.length) : l.getD i 0 ≤ l.getD j 0 := by
  induction l generalizing p i j with
  | nil => simp at hj
  | cons y r ih =>
    obtain ⟨h1, h2, h3⟩ := ascB_cons.1 h
    cases i with
    | zero =>
      cases j with
      | zero => exact Nat.le_refl _
      | succ j =>
        rw [List.getD_cons_zero, List.getD_cons_succ]
        have hj' : j < r.length := by simpa using hj
        have hm : r.getD j 0 ∈ r := by rw [List.getD_eq_getElem?_getD, List.getElem?_eq_getElem hj']; exact List.getElem_mem hj'
        have := asc_ge h3 _ hm
        omega
    | succ i =>
      cases j with
      | zero => omega
      | succ j => rw [List.getD_cons_succ, List.getD_cons_succ]; exact ih h3 (by omega) (by simpa using hj)
theorem nb_get {l : List Nat} {k : Nat} (h : k < l.length) : (nb l).getD k 0 = ((l.getD k 0 : Nat) : Int) := nb_at h
set_option maxRecDepth 100000 in
set_option maxHeartbeats 1600000 in
theorem bs_any (B : Nat) (A : Option Addr) (n c : Nat) (l : List Nat) (x : Int) (w : World) (hx : Reads w B 1 A n (ks .i64 (nb l))) (hn : n ≤ 300) (hs : ascB 0 l = true) :
    Calls Try.prog 36 #[.slice A n c, .int .i64 x] w fun e w' => e = .returned (.tuple #[.int .i64 ((lowI x l : Nat) : Int), .bool (isI x l)]) ∧ w' = w := by
  have LX : Hid (l.length = n) := Lib.hid (by have := hx.kl; rwa [nb_len] at this)
  have HS := Lib.hid hs
  clear hs
  go_enter Try.func36, Try.ntmps36
  go_wp2
  go_loopw [7, 8, 9] (fun i j _ wr => wr = w ∧ ∃ k m : Nat, k ≤ m ∧ m ≤ n ∧ i = .int .i64 k ∧ j = .int .i64 m ∧ Hid (∀ i, i < k → ((l.getD i 0 : Nat) : Int) < x) ∧ Hid (∀ i, m ≤ i → i < n → ¬ ((l.getD i 0 : Nat) : Int) < x)) (fun i j _ _ => (intOf j).toNat - (intOf i).toNat)
  case atStart => exact ⟨rfl, 0, n, Nat.zero_le _, Nat.le_refl _, rfl, rfl, Lib.hid (fun i hi => absurd hi (by omega)), Lib.hid (fun i hi h2 => absurd h2 (by omega))⟩
  case round =>
    obtain ⟨rfl, k, m, hkm, hm, rfl, rfl, HT, HU⟩ := hrel
    by_cases hlt : k < m
    · obtain ⟨hN, hhN⟩ : ∃ hN, hN = (k + m) / 2 := ⟨_, rfl⟩
      have hr : ((k : Int) + (m : Int)) / 2 = (hN : Int) := by omega
      have hr1 : hN < n := by omega
      have hr2 : (hN : Int) < (n : Int) := by omega
      have hr3 : (0 : Int) ≤ (hN : Int) := by omega
      obtain ⟨ad, rfl, g0⟩ := hx.kat hr1
      rw [nb_get (by rw [LX.out]; exact hr1)] at g0
      obtain ⟨y, hyy⟩ : ∃ y, y = l.getD hN 0 := ⟨_, rfl⟩
      rw [← hyy] at g0
      have HXX := Lib.hid hyy
      have HHN := Lib.hid hhN
      clear hyy hhN hx
      have hsI : IntKind.i64.wrap ((hN : Int) + 1) = (hN : Int) + 1 := by rw [IntWalk.i64_in _ (by omega)]
      by_cases hlx : (y : Int) < x
      · have HN : Hid (∀ i, i < hN + 1 → ((l.getD i 0 : Nat) : Int) < x) := Lib.hid (fun i hi => by
          have := asc_lt (i := i) (j := hN) HS.out (by omega) (by rw [LX.out]; exact hr1)
          rw [← HXX.out] at this; omega)
        go_wp2
        go_roundw
        case rel => exact ⟨trivial, hN + 1, m, by have := HHN.out; omega, hm, by go_num, rfl, HN, HU⟩
        case measure => simp only [intOf]; have := HHN.out; omega
      · have HN : Hid (∀ i, hN ≤ i → i < n → ¬ ((l.getD i 0 : Nat) : Int) < x) := Lib.hid (fun i hi h2 => by
          have := asc_lt HS.out hi (by rw [LX.out]; exact h2)
          rw [← HXX.out] at this; omega)
        go_wp2
        go_roundw
        case rel => exact ⟨trivial, k, hN, by have := HHN.out; omega, by omega, rfl, by go_num, HT, HN⟩
        case measure => simp only [intOf]; have := HHN.out; omega
    · obtain rfl : k = m := by omega
      have HL : Hid (lowI x l = k) := Lib.hid (nlow_is x l k (by rw [LX.out]; exact hm) HT.out (fun q => HU.out k (Nat.le_refl _) (by rw [← LX.out]; exact q)))
      by_cases hkn : k < n
      · obtain ⟨ad, rfl, g0⟩ := hx.kat hkn
        rw [nb_get (by rw [LX.out]; exact hkn)] at g0
        obtain ⟨y, hyy⟩ : ∃ y, y = l.getD k 0 := ⟨_, rfl⟩
        rw [← hyy] at g0
        have HXX := Lib.hid hyy
        clear hyy hx
        by_cases hxb : (y : Int) = x
        · have HT2 : Hid (isI x l = true) := Lib.hid (by unfold isI; rw [HL.out, LX.out]; exact decide_eq_true ⟨hkn, by rw [← HXX.out]; exact hxb⟩)
          have hq : ((y : Int) == x) = true := by simpa using hxb
          clear hxb
          go_wp2
          go_ret2
          exact ⟨by rw [HL.out, HT2.out]; rfl, rfl⟩
        · have HT2 : Hid (isI x l = false) := Lib.hid (by unfold isI; rw [HL.out, LX.out]; exact decide_eq_false (fun q => hxb (by rw [HXX.out]; exact q.2)))
          have hq : ((y : Int) == x) = false := by simpa using hxb
          clear hxb
          go_wp2
          go_ret2
          exact ⟨by rw [HL.out, HT2.out]; rfl, rfl⟩
      · have HT2 : Hid (isI x l = false) := Lib.hid (by unfold isI; rw [HL.out, LX.out]; exact decide_eq_false (fun q => hkn q.1))
        go_wp2
        go_ret2
        exact ⟨by rw [HL.out, HT2.out]; rfl, rfl⟩
end Go.Proofs.Ytokjeglhmmijfaa
