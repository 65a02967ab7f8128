/-
  The law NodeOrder at any keys and any order: the walk; no condition.
-/
import Derived.Test.YtononinmjijhoaaNdc
import Derived.Test.YtononinmjijhoaaNd6
import Derived.Test.YtononinmjijhoaaRuns
import Derived.Deep.CutBlock
import Derived.Deep.CutRange
namespace Go.Proofs.Ytononinmjijhoaa
open Go.RowKit Go.WideShapes Go.ChangeShapes
set_option linter.all false
section
variable {P : Program} {w : World} {size n : Nat} {xs : List Value}
theorem wpList_append_mid {ops : Array Oper} {rest : List Oper} {o : Oper} {a : Act} {Q : Exit → Act → World → Prop} (hg : o.guard = none) (s x : Operand) (t : TypeId)
    (ho : o.op = .call { callee := .builtin .append, args := #[s, x], argTypes := #[t, t] })
    (base : Nat) (e : TypeId) (i : TypeInfo) (z : Value) (size bytes : Nat) (ht : P.underlying t = some (.slice e)) (hi : P.info? e = some i) (hz : i.zero = some z)
    (hsize : i.size = size) (hby : i.bytes = bytes) (hzs : z.cells.size = size) (hsz : 0 < size) (v : Value) (n : Nat) (xs : List Value) (hs : a.eval s = v) (h : Mid w base e size v n xs)
    (ad : Addr) (m c : Nat) (news : List Value) (hx : a.eval x = .slice (some ad) m c) (hl : news.length = m * size) (hnews : ∀ j u, news[j]? = some u → w.cell? (ad.add j) = some u) (h1 : ∀ u ∈ news, u.oneCell' = true)
    (h63 : n + m ≤ maxLen) (hbytes : (n + m) * bytes ≤ 140737488355328) (hbase : base ≤ w.heap.size)
    (hK : ∀ v' w', Mid w' base e size v' (n + m) (xs ++ news) → Ran v v' w w' → wpList P ops Q rest (a.put o.dst v') w') : wpList P ops Q (o :: rest) a w :=
  wpList_plain hg fun K hK' => wp_append_mid s x t ho base e i z size bytes ht hi hz hsize hby hzs hsz v n xs hs h ad m c news hx hl hnews h1 h63 hbytes hbase (fun v' w' q1 q2 => hK' _ _ (hK v' w' q1 q2))
end
/-- A node of the law's own in its box at block b; its rows lie above B. -/
def Nb (B b : Nat) (A : Option Addr) (c : Nat) (A' : Option Addr) (c' : Nat) (xs : List Int) (w : World) : Prop :=
  w.heap[b]? = some (.cells #[.int .i64 4, .int .u64 0, .string ⟨#[]⟩, .slice A xs.length c, .slice A' xs.length c'] 28 (0, 0)) ∧ Mid w B 5 1 (.slice A xs.length c) xs.length (xs.map (Value.int .u8)) ∧ Mid w B 3 1 (.slice A' xs.length c') xs.length ((xs.map kf).map (Value.int .i64))
/-- What the first loop holds. -/
structure Od0 (W : World) (ls : List Int) (v : Value) (w : World) : Prop where
  bel : Below W.heap.size W w
  n : w.heap[W.heap.size]? = some (.cells #[.int .i64 4, .int .u64 0, .string ⟨#[]⟩, .slice none 0 0, .slice none 0 0] 28 (0, 0))
  m : w.heap[W.heap.size + 1]? = some (.cells #[.int .i64 4, .int .u64 0, .string ⟨#[]⟩, .slice none 0 0, .slice none 0 0] 28 (0, 0))
  l : Mid w (W.heap.size + 2) 5 1 v ls.length (ls.map (Value.int .u8))
theorem lt_of_heap {w : World} {b : Nat} {o : Obj} (h : w.heap[b]? = some o) : b < w.heap.size := by
  rcases Nat.lt_or_ge b w.heap.size with q | q
  · exact q
  · rw [Array.getElem?_eq_none q] at h; cases h
theorem Od0.size {W w : World} {ls : List Int} {v : Value} (h : Od0 W ls v w) : W.heap.size + 2 ≤ w.heap.size := lt_of_heap h.m
theorem Od0.put {W w w' : World} {ls : List Int} {v v' : Value} {x : Int} (h : Od0 W ls v w) (hm : Mid w' (W.heap.size + 2) 5 1 v' (ls.length + 1) (ls.map (Value.int .u8) ++ [.int .u8 x])) (hr : Ran v v' w w') : Od0 W (ls ++ [x]) v' w' :=
  ⟨h.bel.trans (hr.below h.bel.size fun g hg => by have := (h.l.lt g hg).1; omega), hr.keep (by have := h.size; omega) (fun e => by have := (h.l.lt _ e.symm).1; omega) h.n, hr.keep (by have := h.size; omega) (fun e => by have := (h.l.lt _ e.symm).1; omega) h.m, by simpa using hm⟩
/-- What the other loops hold. -/
structure Od (W : World) (xs ys ls : List Int) (v : Value) (w : World) : Prop where
  bel : Below W.heap.size W w
  n : ∃ A c A' c', Nb (W.heap.size + 2) W.heap.size A c A' c' xs w
  m : ∃ A c A' c', Nb (W.heap.size + 2) (W.heap.size + 1) A c A' c' ys w
  l : Mid w (W.heap.size + 2) 5 1 v ls.length (ls.map (Value.int .u8))
theorem Od0.od {W w : World} {ls : List Int} {v : Value} (h : Od0 W ls v w) : Od W [] [] ls v w :=
  ⟨h.bel, ⟨none, 0, none, 0, h.n, Mid.nil _ _ _ _, Mid.nil _ _ _ _⟩, ⟨none, 0, none, 0, h.m, Mid.nil _ _ _ _, Mid.nil _ _ _ _⟩, h.l⟩
theorem Od.size {W w : World} {xs ys ls : List Int} {v : Value} (h : Od W xs ys ls v w) : W.heap.size + 2 ≤ w.heap.size := by
  obtain ⟨A, c, A', c', h1, _⟩ := h.m
  exact lt_of_heap h1
theorem Nb.keep {B b c c' : Nat} {A A' : Option Addr} {xs : List Int} {w w' : World} (h : Nb B b A c A' c' xs w) (k : Below w.heap.size w w') : Nb B b A c A' c' xs w' :=
  ⟨(heap_below k (lt_of_heap h.1)).trans h.1, h.2.1.same fun g hg => heap_below k (h.2.1.lt g hg).2, h.2.2.same fun g hg => heap_below k (h.2.2.lt g hg).2⟩
theorem Od.keep {W w w' : World} {xs ys ls : List Int} {v : Value} (h : Od W xs ys ls v w) (k : Below w.heap.size w w') : Od W xs ys ls v w' := by
  obtain ⟨A, c, A', c', h1⟩ := h.n
  obtain ⟨D, d, D', d', h2⟩ := h.m
  exact ⟨h.bel.trans (k.mono h.bel.size), ⟨A, c, A', c', h1.keep k⟩, ⟨D, d, D', d', h2.keep k⟩, h.l.same fun g hg => heap_below k (h.l.lt g hg).2⟩
theorem take_snoc {xs : List Int} {k : Nat} (h : k < xs.length) : xs.take (k + 1) = xs.take k ++ [xs.getD k 0] := by
  rw [List.take_succ_eq_append_getElem h, List.getD_eq_getElem?_getD, List.getElem?_eq_getElem h]; rfl
theorem Reads.tk {w : World} {B n k : Nat} {A : Option Addr} {xs : List Value} (h : Reads w B 1 A n xs) (hk : k ≤ n) : Reads w B 1 A k (xs.take k) :=
  ⟨by rw [List.length_take]; have := h.1; omega, fun h0 => by
    obtain ⟨ad, e, hb, hc⟩ := h.2 (by omega)
    exact ⟨ad, e, hb, fun j u hu => hc j u (by rw [List.getElem?_take] at hu; split at hu; exact hu; cases hu)⟩⟩
theorem cut_mem {ls : List Int} {q : Nat} (h : q < ls.length) (z : Int) : z ∈ ls ↔ z = ls.getD q 0 ∨ z ∈ ls.take q ++ ls.drop (q + 1) := by
  have e : ls = ls.take q ++ ls.getD q 0 :: ls.drop (q + 1) := by
    conv => lhs; rw [← List.take_append_drop q ls]
    rw [List.drop_eq_getElem_cons h, List.getD_eq_getElem?_getD, List.getElem?_eq_getElem h]; rfl
  conv => lhs; rw [e]
  simp only [List.mem_append, List.mem_cons]
  constructor
  · rintro (a | a | a)
    · exact .inr (.inl a)
    · exact .inl a
    · exact .inr (.inr a)
  · rintro (a | a | a)
    · exact .inr (.inl a)
    · exact .inl a
    · exact .inr (.inr a)
theorem mid_empty (wy : World) : Mid (wy.drew.alloc (.cells #[] 5)) wy.heap.size 5 1 (.slice (some ⟨wy.heap.size, 0, none⟩) 0 0) 0 [] :=
  ⟨rfl, .inr ⟨wy.heap.size, 0, 0, #[], rfl, Nat.le_refl _, heap_alloc_new wy.drew _, Nat.le_refl _, Nat.zero_le _, by simp, by simp⟩⟩
/-- The five cells of a node's box written anew. -/
def put5 (w : World) (b : Nat) (G : Option Addr) (g : Nat) (G' : Option Addr) (g' m : Nat) : World :=
  ((((w.setCell ⟨b, 0, none⟩ (.int .i64 4)).setCell ⟨b, 1, none⟩ (.int .u64 0)).setCell ⟨b, 2, none⟩ (.string ⟨#[]⟩)).setCell ⟨b, 3, none⟩ (.slice G m g)).setCell ⟨b, 4, none⟩ (.slice G' m g')
theorem put5_self {w : World} {b g g' m : Nat} {G G' : Option Addr} {a0 a1 a2 a3 a4 : Value} (h : w.heap[b]? = some (.cells #[a0, a1, a2, a3, a4] 28 (0, 0))) : (put5 w b G g G' g' m).heap[b]? = some (.cells #[.int .i64 4, .int .u64 0, .string ⟨#[]⟩, .slice G m g, .slice G' m g'] 28 (0, 0)) :=
  heap_setCell_same _ _ 4 _ _ (.slice G' m g') (heap_setCell_same _ _ 3 _ _ (.slice G m g) (heap_setCell_same _ _ 2 _ _ (.string ⟨#[]⟩) (heap_setCell_same _ _ 1 _ _ (.int .u64 0) (heap_setCell_same _ _ 0 _ _ (.int .i64 4) h))))
theorem put5_far {w : World} {b g g' m k : Nat} {G G' : Option Addr} (h : k ≠ b) : (put5 w b G g G' g' m).heap[k]? = w.heap[k]? := by
  unfold put5
  refine heap_far ?_ (heap_far ?_ (heap_far ?_ (heap_far ?_ (heap_far ?_ rfl)))) <;> exact h
theorem put5_below {W w : World} {B b g g' m : Nat} {G G' : Option Addr} (h : Below B W w) (hb : B ≤ b) : Below B W (put5 w b G g G' g' m) := by
  unfold put5
  exact ((((h.setCell (p := ⟨b, 0, none⟩) hb _).setCell (p := ⟨b, 1, none⟩) hb _).setCell (p := ⟨b, 2, none⟩) hb _).setCell (p := ⟨b, 3, none⟩) hb _).setCell (p := ⟨b, 4, none⟩) hb _
/-- With's result in a box of the law's own at block q. -/
structure Nw (W : World) (q m : Nat) (G : Option Addr) (g : Nat) (G' : Option Addr) (g' : Nat) (zs : List Int) (w : World) : Prop where
  far : W.heap.size + 2 ≤ q
  len : m = zs.length
  box : w.heap[q]? = some (.cells #[.int .i64 4, .int .u64 0, .string ⟨#[]⟩, .slice G m g, .slice G' m g'] 28 (0, 0))
  x : Mid w (W.heap.size + 2) 5 1 (.slice G m g) m (zs.map (Value.int .u8))
  y : Mid w (W.heap.size + 2) 3 1 (.slice G' m g') m ((zs.map kf).map (Value.int .i64))
theorem nwA {W w w1 : World} {m g g' : Nat} {G G' : Option Addr} {zs : List Int} (hW : W.heap.size + 2 ≤ w.heap.size) (hm : m = zs.length) (hs : w.heap.size ≤ w1.heap.size) (h1 : Mid w1 w.heap.size 5 1 (.slice G m g) m (zs.map (Value.int .u8))) (h2 : Mid w1 w.heap.size 3 1 (.slice G' m g') m ((zs.map kf).map (Value.int .i64))) :
    Nw W w1.heap.size m G g G' g' zs (w1.alloc (.cells #[.int .i64 4, .int .u64 0, .string ⟨#[]⟩, .slice G m g, .slice G' m g'] 28)) :=
  ⟨by omega, hm, heap_alloc_new _ _, (h1.lower hW).same fun k hk => heap_alloc_old _ _ (h1.lt k hk).2, (h2.lower hW).same fun k hk => heap_alloc_old _ _ (h2.lt k hk).2⟩
theorem nwB {W w1 : World} {m g g' q : Nat} {G G' : Option Addr} {zs : List Int} {a0 a1 a2 a3 a4 : Value} (hW : W.heap.size + 2 ≤ q) (hm : m = zs.length) (hq : w1.heap[q]? = some (.cells #[a0, a1, a2, a3, a4] 28 (0, 0))) (h1 : Mid w1 (q + 1) 5 1 (.slice G m g) m (zs.map (Value.int .u8))) (h2 : Mid w1 (q + 1) 3 1 (.slice G' m g') m ((zs.map kf).map (Value.int .i64))) :
    Nw W q m G g G' g' zs (put5 w1 q G g G' g' m) :=
  ⟨hW, hm, put5_self hq, (h1.lower (by omega)).same fun k hk => put5_far (by have := (h1.lt k hk).1; omega), (h2.lower (by omega)).same fun k hk => put5_far (by have := (h2.lt k hk).1; omega)⟩
theorem Nb.far {B b c c' e m g g' : Nat} {A A' G G' : Option Addr} {xs : List Int} {w : World} (h : Nb B b A c A' c' xs w) (hb : b ≠ e) (he : e < B) : Nb B b A c A' c' xs (put5 w e G g G' g' m) :=
  ⟨(put5_far hb).trans h.1, h.2.1.same fun k hk => put5_far (by have := (h.2.1.lt k hk).1; omega), h.2.2.same fun k hk => put5_far (by have := (h.2.2.lt k hk).1; omega)⟩
theorem Od.setN {W w : World} {xs ys ls zs : List Int} {v : Value} {q m g g' : Nat} {G G' : Option Addr} (h : Od W xs ys ls v w) (k : Nw W q m G g G' g' zs w) : Od W zs ys ls v (put5 w W.heap.size G g G' g' m) := by
  obtain ⟨A, c, A', c', h1⟩ := h.n
  obtain ⟨D, d, D', d', h2⟩ := h.m
  have hm := k.len
  subst hm
  exact ⟨put5_below h.bel (Nat.le_refl _), ⟨G, g, G', g', put5_self h1.1, k.x.same fun j hj => put5_far (by have := (k.x.lt j hj).1; omega), k.y.same fun j hj => put5_far (by have := (k.y.lt j hj).1; omega)⟩, ⟨D, d, D', d', h2.far (by omega) (by omega)⟩, h.l.same fun j hj => put5_far (by have := (h.l.lt j hj).1; omega)⟩
theorem Od.setM {W w : World} {xs ys ls zs : List Int} {v : Value} {q m g g' : Nat} {G G' : Option Addr} (h : Od W xs ys ls v w) (k : Nw W q m G g G' g' zs w) : Od W xs zs ls v (put5 w (W.heap.size + 1) G g G' g' m) := by
  obtain ⟨A, c, A', c', h1⟩ := h.n
  obtain ⟨D, d, D', d', h2⟩ := h.m
  have hm := k.len
  subst hm
  exact ⟨put5_below h.bel (by omega), ⟨A, c, A', c', h1.far (by omega) (by omega)⟩, ⟨G, g, G', g', put5_self h2.1, k.x.same fun j hj => put5_far (by have := (k.x.lt j hj).1; omega), k.y.same fun j hj => put5_far (by have := (k.y.lt j hj).1; omega)⟩, h.l.same fun j hj => put5_far (by have := (h.l.lt j hj).1; omega)⟩
set_option maxRecDepth 100000 in
set_option maxHeartbeats 12800000 in
theorem order_any (A0 : Option Addr) (n0 c0 : Nat) (x0 : List Int) (A1 : Option Addr) (n1 c1 : Nat) (x1 : List Int) (w : World) (r0 : Reads w w.heap.size 1 A0 n0 (x0.map (Value.int .u8))) (f0 : Byt x0) (m0 : n0 ≤ maxLen) (r1 : Reads w w.heap.size 1 A1 n1 (x1.map (Value.int .i64))) (m1 : n1 ≤ maxLen) :
    Calls Try.prog 5 #[.slice A0 n0 c0, .slice A1 n1 c1] w fun e w' => e = .returned (.bool true) ∧ Below w.heap.size w w' := by
  obtain ⟨ib, bi, bz0, bz1, bz2⟩ := info_parts infoB
  have HBY := Lib.hid f0
  have HX := Lib.hid r0
  have HY := Lib.hid r1
  have LX : Hid (x0.length = n0) := Lib.hid (klen r0)
  have LY : Hid (x1.length = n1) := Lib.hid (klen r1)
  have HO0 : Hid (Od0 w [] (.slice none 0 0) ((w.alloc (.cells #[.int .i64 4, .int .u64 0, .string ⟨#[]⟩, .slice none 0 0, .slice none 0 0] 28)).alloc (.cells #[.int .i64 4, .int .u64 0, .string ⟨#[]⟩, .slice none 0 0, .slice none 0 0] 28))) := Lib.hid
    ⟨((Below.refl _ _).alloc (Nat.le_refl _) _).alloc (by simp) _, by rw [heap_alloc_old _ _ (by simp)]; exact heap_alloc_new _ _, by
      have := heap_alloc_new (w.alloc (.cells #[.int .i64 4, .int .u64 0, .string ⟨#[]⟩, .slice none 0 0, .slice none 0 0] 28)) (.cells #[.int .i64 4, .int .u64 0, .string ⟨#[]⟩, .slice none 0 0, .slice none 0 0] 28)
      simpa using this, Mid.nil _ _ _ _⟩
  have H63 : Hid (n0 ≤ maxLen ∧ n1 ≤ maxLen) := Lib.hid ⟨m0, m1⟩
  clear f0 r0 r1 m0 m1
  go_enter Try.func5, Try.ntmps5
  go_upto_block 0 with (fail)
  go_cut [7, 8] from 20 to 37 (fun v i wr => ∃ k c A L, v = .slice A k c ∧ Hid (L.length = k ∧ k ≤ 40 ∧ Byt L) ∧ Hid (Od w [] [] L (.slice A k c) wr))
  case first =>
   go_wp2
   go_loopw [7, 8] (fun v i wr => ∃ k c A, i = .int .i64 (k : Nat) ∧ v = .slice A k c ∧ k ≤ n0 ∧ k ≤ 40 ∧ Hid (Od0 w (x0.take k) v wr)) (fun _ i _ => 40 - (intOf i).toNat)
   case atStart => exact ⟨0, 0, none, rfl, rfl, Nat.zero_le _, Nat.zero_le _, HO0⟩
   case round =>
     obtain ⟨k, c, A, rfl, rfl, hk, hk4, HO⟩ := hrel
     by_cases hin : k < n0 ∧ k < 40
     · obtain ⟨h1, h2⟩ := hin
       have HLT : Hid (k < x0.length) := Lib.hid (by rw [LX.out]; exact h1)
       have LT : Hid ((x0.take k).length = k) := Lib.hid (by rw [List.length_take]; have := HLT.out; omega)
       obtain ⟨ad, rfl, hab, g0⟩ := kget HX.out h1
       have g1 : wr.cell? (ad.add k) = some (.int .u8 (x0.getD k 0)) := (HO.out.bel.cell (by rw [block_of_add]; exact hab)).trans g0
       obtain ⟨x, hx⟩ : ∃ x, x = x0.getD k 0 := ⟨_, rfl⟩
       rw [← hx] at g1
       have HXX := Lib.hid hx
       clear hx g0 hab
       have hk1 : (k : Int) < n0 := by omega
       have hk2 : (k : Int) < 40 := by omega
       go_wp2_with (first
         | (refine wpList_append_mid rfl (.tmp 30) (.tmp 35) 23 rfl (w.heap.size + 2) 5 ib _ 1 1 Try.underlying23 bi bz0 bz1 bz2 rfl (by omega) (.slice A k c) k _ rfl (by have := HO.out.l; rw [LT.out] at this; exact this.same fun g hg => Below.heap_alloc _ _ g (this.lt g hg).2) ⟨_, 0, none⟩ 1 1 [.int .u8 x] rfl rfl (World.news_of_block (cs := #[.int .u8 x]) (t := 5) (fr := (0, 0)) (heap_alloc_new _ _)) (by simp [Value.oneCell']) (by unfold maxLen; omega) (by omega) (by have := HO.out.size; simp; omega) ?_
            intro v' w3 hmm hran
            have HO2 : Hid (Od0 w (x0.take (k + 1)) v' w3) := Lib.hid (by
              rw [take_snoc HLT.out, ← HXX.out]
              exact HO.out.put (by rw [LT.out]; exact hmm) hran.alloc)
            obtain ⟨A2, c2, rfl⟩ := hmm.form
            clear hmm hran)
         | fail)
       go_roundw
       case rel => exact ⟨k + 1, c2, A2, by go_num, rfl, by omega, by omega, HO2⟩
       case measure => simp only [intOf]; omega
     · have hg : ¬ (k : Int) < n0 ∨ (k < n0 ∧ ¬ (k : Int) < 40) := by omega
       obtain ⟨L, hL⟩ : ∃ L, L = x0.take k := ⟨_, rfl⟩
       have LL : Hid (L.length = k) := Lib.hid (by rw [hL, List.length_take, LX.out]; omega)
       have HB : Hid (Byt L) := Lib.hid (by rw [hL]; exact fun z hz => HBY.out z (List.mem_of_mem_take hz))
       rw [← hL] at HO
       have HO1 : Hid (Od w [] [] L (.slice A k c) wr) := Lib.hid HO.out.od
       clear hL HO hk
       have hk9 : k ≤ 40 := hk4
       rcases hg with hg | ⟨hg0, hg⟩
       all_goals
         go_wp2
         go_meet
         exact ⟨k, c, A, L, rfl, Lib.hid ⟨LL.out, hk4, HB.out⟩, HO1⟩
  obtain ⟨k, c, A, L, rfl, HL, HO⟩ := hcut
  have LL : Hid (L.length = k) := Lib.hid HL.out.1
  have hk4 : k ≤ 40 := HL.out.2.1
  have HBL : Hid (Byt L) := Lib.hid HL.out.2.2
  clear HL HX HBY LX HO0
  go_wp2
  go_loopw [39] (fun i wr => ∃ j : Nat, i = .int .i64 j ∧ j ≤ k ∧ Hid (∃ xs, Pw xs ∧ (∀ z, z ∈ xs ↔ z ∈ L.take j) ∧ xs.length ≤ j ∧ Od w xs [] L (.slice A k c) wr)) (fun i _ => k - (intOf i).toNat)
  case atStart => exact ⟨0, rfl, Nat.zero_le _, Lib.hid ⟨[], List.Pairwise.nil, by simp, by simp, HO.out⟩⟩
  case round =>
    obtain ⟨j, rfl, hj, H⟩ := hrel
    obtain ⟨xs, hpw, hmem, hlen, hO⟩ := H.out
    by_cases hlt : j < k
    · have hjl : j < L.length := by rw [LL.out]; exact hlt
      have hml : Mid wr (w.heap.size + 2) 5 1 (.slice A k c) k (L.map (Value.int .u8)) := by have := hO.l; rw [LL.out] at this; exact this
      obtain ⟨ad, rfl, hab, g0⟩ := kget hml.reads hlt
      obtain ⟨D, d, D', d', hN⟩ := hO.n
      obtain ⟨b, hb⟩ : ∃ b, b = L.getD j 0 := ⟨_, rfl⟩
      rw [← hb] at g0
      have HBX : Hid (Byt xs) := Lib.hid fun z hz => HBL.out z (List.mem_of_mem_take ((hmem z).1 hz))
      have HB1 : Hid (0 ≤ b ∧ b < 256) := Lib.hid (HBL.out b (by rw [hb, List.getD_eq_getElem?_getD, List.getElem?_eq_getElem hjl]; exact List.getElem_mem hjl))
      obtain ⟨n, hn⟩ : ∃ n, n = xs.length := ⟨_, rfl⟩
      have hn2 : n ≤ 40 := by omega
      unfold Nb at hN
      rw [← hn] at hN
      have p0 := cell_of hN.1 0
      have p1 := cell_of hN.1 1
      have p2 := cell_of hN.1 2
      have p3 := cell_of hN.1 3
      have p4 := cell_of hN.1 4
      have HNN := Lib.hid hN
      have HOO := Lib.hid hO
      have HP := Lib.hid hpw
      have HM := Lib.hid hmem
      have HBB := Lib.hid hb
      have HNL := Lib.hid hn
      have HJL := Lib.hid hjl
      have HLE := Lib.hid hlen
      clear hpw hmem hlen hO hN hb hn hab H hjl hml
      have hj1 : (j : Int) < k := by omega
      go_wp2
      have HAL : Hid (Below wr.heap.size wr (wr.alloc (.cells #[.int .i64 0, .int .u64 0, .string ⟨#[]⟩, .slice none 0 0, .slice none 0 0] 28))) := Lib.hid ((Below.refl _ _).alloc (Nat.le_refl _) _)
      have HAS : Hid ((wr.alloc (.cells #[.int .i64 0, .int .u64 0, .string ⟨#[]⟩, .slice none 0 0, .slice none 0 0] 28)).heap.size = wr.heap.size + 1) := Lib.hid (by simp)
      have HAN : Hid (Nb (w.heap.size + 2) (w.heap.size) D d D' d' xs (wr.alloc (.cells #[.int .i64 0, .int .u64 0, .string ⟨#[]⟩, .slice none 0 0, .slice none 0 0] 28))) := Lib.hid (by
        have h : Nb (w.heap.size + 2) (w.heap.size) D d D' d' xs wr := by unfold Nb; rw [← HNL.out]; exact HNN.out
        exact h.keep HAL.out)
      have HAQ : Hid ((wr.alloc (.cells #[.int .i64 0, .int .u64 0, .string ⟨#[]⟩, .slice none 0 0, .slice none 0 0] 28)).heap[wr.heap.size]? = some (.cells #[.int .i64 0, .int .u64 0, .string ⟨#[]⟩, .slice none 0 0, .slice none 0 0] 28 (0, 0))) := Lib.hid (heap_alloc_new wr _)
      go_region_held3 (fun w' => w'.cell? ⟨w.heap.size, 0, none⟩ = some (.int .i64 4) ∧ w'.cell? ⟨w.heap.size, 1, none⟩ = some (.int .u64 0) ∧ w'.cell? ⟨w.heap.size, 2, none⟩ = some (.string ⟨#[]⟩) ∧ w'.cell? ⟨w.heap.size, 3, none⟩ = some (.slice D n d) ∧ w'.cell? ⟨w.heap.size, 4, none⟩ = some (.slice D' n d')) (first | with_reducible exact ⟨p0, p1, p2, p3, p4⟩ | with_reducible exact ⟨r0, r1, r2, r3, r4⟩ | with_reducible exact ⟨t0, t1, t2, t3, t4⟩ | (go_keep; done))
        (first
          | (go_at_call 22; refine (kid_any b HB1.out.1 HB1.out.2 _).mono ?_; rintro e w' ⟨rfl, hw'⟩; replace hw' := hw'.symm; subst hw')
          | (go_at_call 19
             have hnb := HNN.out
             have WO := with_order 0 ⟨#[]⟩ D d D' d' n xs b wr.drew (by decide) (by decide) HP.out HBX.out HB1.out.1 HB1.out.2 (by omega) hnb.2.1.reads.drew hnb.2.2.reads.drew
             unfold nodeV at WO
             with_reducible refine WO.mono ?_
             clear WO
             rintro e w1 ⟨v1, rfl, G, g, G', g', rfl, hm1, hm2, hb1⟩
             unfold nodeV
             have hb2 : Below wr.heap.size wr w1 := ⟨hb1.os, hb1.tape, hb1.output, hb1.size, hb1.block⟩
             have hbn : Below wr.heap.size wr w1 := hb2
             obtain ⟨m, hm⟩ : ∃ m, m = (putL b xs).length := ⟨_, rfl⟩
             rw [← hm] at hm1 hm2
             rw [← hm]
             have HML := Lib.hid hm
             have HBN := Lib.hid hbn
             have hh1 : w1.heap[w.heap.size]? = some (.cells #[.int .i64 4, .int .u64 0, .string ⟨#[]⟩, .slice D n d, .slice D' n d'] 28 (0, 0)) := (heap_below hbn (lt_of_heap HNN.out.1)).trans HNN.out.1
             have r0 := cell_of hh1 0
             have r1 := cell_of hh1 1
             have r2 := cell_of hh1 2
             have r3 := cell_of hh1 3
             have r4 := cell_of hh1 4
             have NW := nwA HOO.out.size hm hbn.size hm1 hm2
             have OD := HOO.out.keep (hbn.alloc hbn.size (.cells #[.int .i64 4, .int .u64 0, .string ⟨#[]⟩, .slice G m g, .slice G' m g'] 28))
             obtain ⟨wz, hwz⟩ : ∃ wz, w1.alloc (.cells #[.int .i64 4, .int .u64 0, .string ⟨#[]⟩, .slice G m g, .slice G' m g'] 28) = wz := ⟨_, rfl⟩
             rw [hwz] at NW OD
             obtain ⟨q, hq⟩ : ∃ q, w1.heap.size = q := ⟨_, rfl⟩
             rw [hq] at NW
             have HWZ := Lib.hid hwz
             have HQE := Lib.hid hq
             have HNW := Lib.hid NW
             have HOD := Lib.hid OD
             clear hwz hq NW OD hm1 hm2 hb1 hb2 hbn hh1 hm hnb)
          | (go_at_call 19
             have hnb := HAN.out
             unfold Nb at hnb
             rw [← HNL.out] at hnb
             have WO := with_order 0 ⟨#[]⟩ D d D' d' n xs b (wr.alloc (.cells #[.int .i64 0, .int .u64 0, .string ⟨#[]⟩, .slice none 0 0, .slice none 0 0] 28)).drew (by decide) (by decide) HP.out HBX.out HB1.out.1 HB1.out.2 (by omega) hnb.2.1.reads.drew hnb.2.2.reads.drew
             unfold nodeV at WO
             with_reducible refine WO.mono ?_
             clear WO
             rintro e w1 ⟨v1, rfl, G, g, G', g', rfl, hm1, hm2, hb1⟩
             unfold nodeV
             have hb2 : Below (wr.alloc (.cells #[.int .i64 0, .int .u64 0, .string ⟨#[]⟩, .slice none 0 0, .slice none 0 0] 28)).heap.size (wr.alloc (.cells #[.int .i64 0, .int .u64 0, .string ⟨#[]⟩, .slice none 0 0, .slice none 0 0] 28)) w1 := ⟨hb1.os, hb1.tape, hb1.output, hb1.size, hb1.block⟩
             have hbn : Below wr.heap.size wr w1 := HAL.out.trans (hb2.mono (by rw [HAS.out]; omega))
             obtain ⟨m, hm⟩ : ∃ m, m = (putL b xs).length := ⟨_, rfl⟩
             rw [← hm] at hm1 hm2
             rw [← hm]
             have HML := Lib.hid hm
             have HBN := Lib.hid hbn
             have hh1 : w1.heap[w.heap.size]? = some (.cells #[.int .i64 4, .int .u64 0, .string ⟨#[]⟩, .slice D n d, .slice D' n d'] 28 (0, 0)) := (heap_below hbn (lt_of_heap HNN.out.1)).trans HNN.out.1
             have r0 := cell_of hh1 0
             have r1 := cell_of hh1 1
             have r2 := cell_of hh1 2
             have r3 := cell_of hh1 3
             have r4 := cell_of hh1 4
             have hq1 : w1.heap[wr.heap.size]? = some (.cells #[.int .i64 0, .int .u64 0, .string ⟨#[]⟩, .slice none 0 0, .slice none 0 0] 28 (0, 0)) := (heap_below hb2 (by rw [HAS.out]; omega)).trans HAQ.out
             have HQ1 := Lib.hid hq1
             have s0 := cell_of hq1 0
             have f0 := frozen_of hq1 0
             have s1 := cell_of hq1 1
             have f1 := frozen_of hq1 1
             have s2 := cell_of hq1 2
             have f2 := frozen_of hq1 2
             have s3 := cell_of hq1 3
             have f3 := frozen_of hq1 3
             have s4 := cell_of hq1 4
             have f4 := frozen_of hq1 4
             clear hq1
             have hne : w.heap.size ≠ wr.heap.size := by have := lt_of_heap HNN.out.1; omega
             have ht1 : (((((w1.setCell ⟨wr.heap.size, 0, none⟩ (.int .i64 4)).setCell ⟨wr.heap.size, 1, none⟩ (.int .u64 0)).setCell ⟨wr.heap.size, 2, none⟩ (.string ⟨#[]⟩)).setCell ⟨wr.heap.size, 3, none⟩ (.slice G m g)).setCell ⟨wr.heap.size, 4, none⟩ (.slice G' m g')).heap[w.heap.size]? = some (.cells #[.int .i64 4, .int .u64 0, .string ⟨#[]⟩, .slice D n d, .slice D' n d'] 28 (0, 0)) := heap_far hne (heap_far hne (heap_far hne (heap_far hne (heap_far hne hh1))))
             have t0 := cell_of ht1 0
             have t1 := cell_of ht1 1
             have t2 := cell_of ht1 2
             have t3 := cell_of ht1 3
             have t4 := cell_of ht1 4
             clear ht1 hne
             have hsz : wr.heap.size + 1 ≤ (wr.alloc (.cells #[.int .i64 0, .int .u64 0, .string ⟨#[]⟩, .slice none 0 0, .slice none 0 0] 28)).heap.size := by rw [HAS.out]; exact Nat.le_refl _
             have NW := nwB HOO.out.size hm HQ1.out (hm1.lower hsz) (hm2.lower hsz)
             have OD := HOO.out.keep (put5_below (b := wr.heap.size) (G := G) (g := g) (G' := G') (g' := g') (m := m) hbn (Nat.le_refl _))
             clear hsz
             obtain ⟨wz, hwz⟩ : ∃ wz, put5 w1 wr.heap.size G g G' g' m = wz := ⟨_, rfl⟩
             rw [hwz] at NW OD
             unfold put5 at hwz
             obtain ⟨q, hq⟩ : ∃ q, wr.heap.size = q := ⟨_, rfl⟩
             rw [hq] at NW
             have HWZ := Lib.hid hwz
             have HQE := Lib.hid hq
             have HNW := Lib.hid NW
             have HOD := Lib.hid OD
             clear hwz hq NW OD hm1 hm2 hb1 hb2 hbn hh1 hm hnb))
      all_goals
        rw [HWZ.out, HQE.out]
        clear p0 r0 p1 r1 p2 r2 p3 r3 p4 r4
        have hbq := HNW.out.box
        have z0 := cell_of hbq 0
        have z1 := cell_of hbq 1
        have z2 := cell_of hbq 2
        have z3 := cell_of hbq 3
        have z4 := cell_of hbq 4
        obtain ⟨D5, d5, D6, d6, hN5⟩ := HOD.out.n
        have e0 := cell_of hN5.1 0
        have y0 := frozen_of hN5.1 0
        have e1 := cell_of hN5.1 1
        have y1 := frozen_of hN5.1 1
        have e2 := cell_of hN5.1 2
        have y2 := frozen_of hN5.1 2
        have e3 := cell_of hN5.1 3
        have y3 := frozen_of hN5.1 3
        have e4 := cell_of hN5.1 4
        have y4 := frozen_of hN5.1 4
        clear hN5 hbq
        go_wp2
        go_roundw
        case rel => exact ⟨j + 1, by go_num, by omega, Lib.hid ⟨putL b xs, putL_pw b xs HP.out, fun z => by
          rw [putL_mem, HM.out, take_snoc HJL.out, ← HBB.out, List.mem_append, List.mem_singleton]
          exact or_comm, by have := putL_len b xs; have := HLE.out; omega, HOD.out.setN HNW.out⟩⟩
        case measure => simp only [intOf]; omega
    · obtain rfl : j = k := by omega
      have HXS : Hid (Pw xs ∧ ∀ z, z ∈ xs ↔ z ∈ L) := Lib.hid ⟨hpw, fun z => by rw [hmem, ← LL.out, List.take_length]⟩
      have HOO := Lib.hid hO
      clear hpw hmem hlen hO H hlt hj HO
      go_wp2
      go_loopw [7, 14] (fun v i wr => ∃ (t r c : Nat) (A : Option Addr), v = .slice A r c ∧ i = .int .i64 t ∧ t + r ≤ 40 ∧ Hid (∃ ys ls, ls.length = r ∧ Byt ls ∧ Pw ys ∧ Byt ys ∧ (∀ z, (z ∈ ys ∨ z ∈ ls) ↔ z ∈ L) ∧ ys.length ≤ t ∧ Od w xs ys ls (.slice A r c) wr)) (fun _ i _ => 40 - (intOf i).toNat)
      case atStart => exact ⟨0, j, c, A, rfl, rfl, by omega, Lib.hid ⟨[], L, LL.out, HBL.out, .nil, by simp [Byt], by simp, by simp, HOO.out⟩⟩
      case round =>
        clear HOO
        obtain ⟨t, r, c2, A2, rfl, rfl, htr, H⟩ := hrel
        obtain ⟨ys, ls, hll, hbl, hpw, hby, hmem, hlen, hO⟩ := H.out
        by_cases hr : 0 < r
        · have hpos : (r : Int) > 0 := by omega
          have hpos2 : (0 : Int) < r := by omega
          obtain ⟨gl, ol, rfl⟩ : ∃ gl ol, A2 = some ⟨gl, ol, none⟩ := by
            rcases hO.l.2 with ⟨e, _⟩ | ⟨gk, ok, _, _, e, _⟩
            · injection e with e _ _; omega
            · injection e with e _ _; exact ⟨gk, ok, e⟩
          have hml : Mid wr (w.heap.size + 2) 5 1 (.slice (some ⟨gl, ol, none⟩) r c2) r (ls.map (Value.int .u8)) := by have := hO.l; rw [hll] at this; exact this
          have hcap := hml.caps
          have HML0 := Lib.hid hml
          have HMEM := Lib.hid hmem
          have HLL := Lib.hid hll
          have HLE := Lib.hid hlen
          have HBY := Lib.hid hbl
          have HOO := Lib.hid hO
          have HP := Lib.hid hpw
          have HBX := Lib.hid hby
          clear hml hmem hll hlen hO hpw hby hbl H
          go_upto_if 64 with (fail)
          go_cut [15] from 61 to 73 (fun s wx => ∃ q : Nat, s = .int .i64 q ∧ q < r ∧ Hid (wx = wr))
          case first =>
            by_cases ht : t < n1
            · obtain ⟨a1, e1, hab1, g1⟩ := kget HY.out ht
              subst e1
              have g2 : wr.cell? (a1.add t) = some (.int .i64 (x1.getD t 0)) := (HOO.out.bel.cell (by rw [block_of_add]; exact hab1)).trans g1
              clear g1
              generalize x1.getD t 0 = o at g2
              obtain ⟨q, hq, hq9⟩ := withinV_nat o r hr
              have HQ : Hid (0 + withinV o ((r : Int) - 1 - 0 + 1) = q) := Lib.hid (by rw [show ((r : Int) - 1 - 0 + 1) = (r : Int) from by omega, hq]; omega)
              clear hq
              have ht1 : (t : Int) < n1 := by omega
              go_wp2_with (first | (go_at_call 10; refine (within_any _ 0 _ (by omega) (by omega) (by omega) _).mono ?_; rintro e w' ⟨rfl, rfl⟩; rw [HQ.out]) | fail)
              go_meet
              exact ⟨q, rfl, hq9, Lib.hid rfl⟩
            · have ht1 : ¬ (t : Int) < n1 := by omega
              go_wp2
              go_meet
              exact ⟨0, rfl, hr, Lib.hid rfl⟩
          obtain ⟨q1, rfl, hq1, HWC⟩ := hcut
          have hwc := HWC.out.symm
          subst hwc
          clear HWC
          have hql : q1 < ls.length := by rw [HLL.out]; exact hq1
          obtain ⟨D, d, D', d', hN⟩ := HOO.out.m
          obtain ⟨b, hb⟩ : ∃ b, b = ls.getD q1 0 := ⟨_, rfl⟩
          have HB1 : Hid (0 ≤ b ∧ b < 256) := Lib.hid (HBY.out b (by rw [hb, List.getD_eq_getElem?_getD, List.getElem?_eq_getElem hql]; exact List.getElem_mem hql))
          have p5 : wr.cell? ⟨gl, ol + q1, none⟩ = some (.int .u8 b) := HML0.out.cells q1 _ (by rw [hb, List.getElem?_map, List.getD_eq_getElem?_getD, List.getElem?_eq_getElem hql]; rfl)
          obtain ⟨n, hn⟩ : ∃ n, n = ys.length := ⟨_, rfl⟩
          have hn2 : n ≤ 40 := by have := HLE.out; omega
          unfold Nb at hN
          rw [← hn] at hN
          have p0 := cell_of hN.1 0
          have p1 := cell_of hN.1 1
          have p2 := cell_of hN.1 2
          have p3 := cell_of hN.1 3
          have p4 := cell_of hN.1 4
          have HNN := Lib.hid hN
          have HBB := Lib.hid hb
          have HNL := Lib.hid hn
          have HGL : Hid (gl < wr.heap.size) := Lib.hid ((HML0.out.lt gl rfl).2)
          have HQL := Lib.hid hql
          clear hN hb hn hql
          have hq1I : (q1 : Int) < r := by omega
          have hq1J : ¬ (q1 : Int) < 0 := by omega
          go_wp2
          have HAL : Hid (Below wr.heap.size wr (wr.alloc (.cells #[.int .i64 0, .int .u64 0, .string ⟨#[]⟩, .slice none 0 0, .slice none 0 0] 28))) := Lib.hid ((Below.refl _ _).alloc (Nat.le_refl _) _)
          have HAS : Hid ((wr.alloc (.cells #[.int .i64 0, .int .u64 0, .string ⟨#[]⟩, .slice none 0 0, .slice none 0 0] 28)).heap.size = wr.heap.size + 1) := Lib.hid (by simp)
          have HAN : Hid (Nb (w.heap.size + 2) (w.heap.size + 1) D d D' d' ys (wr.alloc (.cells #[.int .i64 0, .int .u64 0, .string ⟨#[]⟩, .slice none 0 0, .slice none 0 0] 28))) := Lib.hid (by
            have h : Nb (w.heap.size + 2) (w.heap.size + 1) D d D' d' ys wr := by unfold Nb; rw [← HNL.out]; exact HNN.out
            exact h.keep HAL.out)
          have HAQ : Hid ((wr.alloc (.cells #[.int .i64 0, .int .u64 0, .string ⟨#[]⟩, .slice none 0 0, .slice none 0 0] 28)).heap[wr.heap.size]? = some (.cells #[.int .i64 0, .int .u64 0, .string ⟨#[]⟩, .slice none 0 0, .slice none 0 0] 28 (0, 0))) := Lib.hid (heap_alloc_new wr _)
          go_region_held3 (fun w' => w'.cell? ⟨w.heap.size + 1, 0, none⟩ = some (.int .i64 4) ∧ w'.cell? ⟨w.heap.size + 1, 1, none⟩ = some (.int .u64 0) ∧ w'.cell? ⟨w.heap.size + 1, 2, none⟩ = some (.string ⟨#[]⟩) ∧ w'.cell? ⟨w.heap.size + 1, 3, none⟩ = some (.slice D n d) ∧ w'.cell? ⟨w.heap.size + 1, 4, none⟩ = some (.slice D' n d') ∧ w'.cell? ⟨gl, ol + q1, none⟩ = some (.int .u8 b)) (first | with_reducible exact ⟨p0, p1, p2, p3, p4, p5⟩ | with_reducible exact ⟨r0, r1, r2, r3, r4, r5⟩ | with_reducible exact ⟨t0, t1, t2, t3, t4, t5⟩ | (go_keep; done))
            (first
              | (go_at_call 22; refine (kid_any b HB1.out.1 HB1.out.2 _).mono ?_; rintro e w' ⟨rfl, hw'⟩; replace hw' := hw'.symm; subst hw')
              | (go_at_call 19
                 have hnb := HNN.out
                 have WO := with_order 0 ⟨#[]⟩ D d D' d' n ys b wr.drew (by decide) (by decide) HP.out HBX.out HB1.out.1 HB1.out.2 (by omega) hnb.2.1.reads.drew hnb.2.2.reads.drew
                 unfold nodeV at WO
                 with_reducible refine WO.mono ?_
                 clear WO
                 rintro e w1 ⟨v1, rfl, G, g, G', g', rfl, hm1, hm2, hb1⟩
                 unfold nodeV
                 have hb2 : Below wr.heap.size wr w1 := ⟨hb1.os, hb1.tape, hb1.output, hb1.size, hb1.block⟩
                 have hbn : Below wr.heap.size wr w1 := hb2
                 obtain ⟨m, hm⟩ : ∃ m, m = (putL b ys).length := ⟨_, rfl⟩
                 rw [← hm] at hm1 hm2
                 rw [← hm]
                 have HML := Lib.hid hm
                 have HBN := Lib.hid hbn
                 have hh1 : w1.heap[w.heap.size + 1]? = some (.cells #[.int .i64 4, .int .u64 0, .string ⟨#[]⟩, .slice D n d, .slice D' n d'] 28 (0, 0)) := (heap_below hbn (lt_of_heap HNN.out.1)).trans HNN.out.1
                 have r0 := cell_of hh1 0
                 have r1 := cell_of hh1 1
                 have r2 := cell_of hh1 2
                 have r3 := cell_of hh1 3
                 have r4 := cell_of hh1 4
                 have r5 := (hbn.cell (p := ⟨gl, ol + q1, none⟩) HGL.out).trans p5
                 have NW := nwA HOO.out.size hm hbn.size hm1 hm2
                 have OD := HOO.out.keep (hbn.alloc hbn.size (.cells #[.int .i64 4, .int .u64 0, .string ⟨#[]⟩, .slice G m g, .slice G' m g'] 28))
                 obtain ⟨wz, hwz⟩ : ∃ wz, w1.alloc (.cells #[.int .i64 4, .int .u64 0, .string ⟨#[]⟩, .slice G m g, .slice G' m g'] 28) = wz := ⟨_, rfl⟩
                 rw [hwz] at NW OD
                 obtain ⟨q, hq⟩ : ∃ q, w1.heap.size = q := ⟨_, rfl⟩
                 rw [hq] at NW
                 have HWZ := Lib.hid hwz
                 have HQE := Lib.hid hq
                 have HNW := Lib.hid NW
                 have HOD := Lib.hid OD
                 clear hwz hq NW OD hm1 hm2 hb1 hb2 hbn hh1 hm hnb)
              | (go_at_call 19
                 have hnb := HAN.out
                 unfold Nb at hnb
                 rw [← HNL.out] at hnb
                 have WO := with_order 0 ⟨#[]⟩ D d D' d' n ys b (wr.alloc (.cells #[.int .i64 0, .int .u64 0, .string ⟨#[]⟩, .slice none 0 0, .slice none 0 0] 28)).drew (by decide) (by decide) HP.out HBX.out HB1.out.1 HB1.out.2 (by omega) hnb.2.1.reads.drew hnb.2.2.reads.drew
                 unfold nodeV at WO
                 with_reducible refine WO.mono ?_
                 clear WO
                 rintro e w1 ⟨v1, rfl, G, g, G', g', rfl, hm1, hm2, hb1⟩
                 unfold nodeV
                 have hb2 : Below (wr.alloc (.cells #[.int .i64 0, .int .u64 0, .string ⟨#[]⟩, .slice none 0 0, .slice none 0 0] 28)).heap.size (wr.alloc (.cells #[.int .i64 0, .int .u64 0, .string ⟨#[]⟩, .slice none 0 0, .slice none 0 0] 28)) w1 := ⟨hb1.os, hb1.tape, hb1.output, hb1.size, hb1.block⟩
                 have hbn : Below wr.heap.size wr w1 := HAL.out.trans (hb2.mono (by rw [HAS.out]; omega))
                 obtain ⟨m, hm⟩ : ∃ m, m = (putL b ys).length := ⟨_, rfl⟩
                 rw [← hm] at hm1 hm2
                 rw [← hm]
                 have HML := Lib.hid hm
                 have HBN := Lib.hid hbn
                 have hh1 : w1.heap[w.heap.size + 1]? = some (.cells #[.int .i64 4, .int .u64 0, .string ⟨#[]⟩, .slice D n d, .slice D' n d'] 28 (0, 0)) := (heap_below hbn (lt_of_heap HNN.out.1)).trans HNN.out.1
                 have r0 := cell_of hh1 0
                 have r1 := cell_of hh1 1
                 have r2 := cell_of hh1 2
                 have r3 := cell_of hh1 3
                 have r4 := cell_of hh1 4
                 have r5 := (hbn.cell (p := ⟨gl, ol + q1, none⟩) HGL.out).trans p5
                 have hq1 : w1.heap[wr.heap.size]? = some (.cells #[.int .i64 0, .int .u64 0, .string ⟨#[]⟩, .slice none 0 0, .slice none 0 0] 28 (0, 0)) := (heap_below hb2 (by rw [HAS.out]; omega)).trans HAQ.out
                 have HQ1 := Lib.hid hq1
                 have s0 := cell_of hq1 0
                 have f0 := frozen_of hq1 0
                 have s1 := cell_of hq1 1
                 have f1 := frozen_of hq1 1
                 have s2 := cell_of hq1 2
                 have f2 := frozen_of hq1 2
                 have s3 := cell_of hq1 3
                 have f3 := frozen_of hq1 3
                 have s4 := cell_of hq1 4
                 have f4 := frozen_of hq1 4
                 clear hq1
                 have hne : w.heap.size + 1 ≠ wr.heap.size := by have := lt_of_heap HNN.out.1; omega
                 have ht1 : (((((w1.setCell ⟨wr.heap.size, 0, none⟩ (.int .i64 4)).setCell ⟨wr.heap.size, 1, none⟩ (.int .u64 0)).setCell ⟨wr.heap.size, 2, none⟩ (.string ⟨#[]⟩)).setCell ⟨wr.heap.size, 3, none⟩ (.slice G m g)).setCell ⟨wr.heap.size, 4, none⟩ (.slice G' m g')).heap[w.heap.size + 1]? = some (.cells #[.int .i64 4, .int .u64 0, .string ⟨#[]⟩, .slice D n d, .slice D' n d'] 28 (0, 0)) := heap_far hne (heap_far hne (heap_far hne (heap_far hne (heap_far hne hh1))))
                 have t0 := cell_of ht1 0
                 have t1 := cell_of ht1 1
                 have t2 := cell_of ht1 2
                 have t3 := cell_of ht1 3
                 have t4 := cell_of ht1 4
                 have t5 : (((((w1.setCell ⟨wr.heap.size, 0, none⟩ (.int .i64 4)).setCell ⟨wr.heap.size, 1, none⟩ (.int .u64 0)).setCell ⟨wr.heap.size, 2, none⟩ (.string ⟨#[]⟩)).setCell ⟨wr.heap.size, 3, none⟩ (.slice G m g)).setCell ⟨wr.heap.size, 4, none⟩ (.slice G' m g')).cell? ⟨gl, ol + q1, none⟩ = some (.int .u8 b) := (World.cell?_of_block (a := ⟨gl, ol + q1, none⟩) (put5_far (w := w1) (b := wr.heap.size) (G := G) (g := g) (G' := G') (g' := g') (m := m) (Nat.ne_of_lt HGL.out))).trans r5
                 clear ht1 hne
                 have hsz : wr.heap.size + 1 ≤ (wr.alloc (.cells #[.int .i64 0, .int .u64 0, .string ⟨#[]⟩, .slice none 0 0, .slice none 0 0] 28)).heap.size := by rw [HAS.out]; exact Nat.le_refl _
                 have NW := nwB HOO.out.size hm HQ1.out (hm1.lower hsz) (hm2.lower hsz)
                 have OD := HOO.out.keep (put5_below (b := wr.heap.size) (G := G) (g := g) (G' := G') (g' := g') (m := m) hbn (Nat.le_refl _))
                 clear hsz
                 obtain ⟨wz, hwz⟩ : ∃ wz, put5 w1 wr.heap.size G g G' g' m = wz := ⟨_, rfl⟩
                 rw [hwz] at NW OD
                 unfold put5 at hwz
                 obtain ⟨q, hq⟩ : ∃ q, wr.heap.size = q := ⟨_, rfl⟩
                 rw [hq] at NW
                 have HWZ := Lib.hid hwz
                 have HQE := Lib.hid hq
                 have HNW := Lib.hid NW
                 have HOD := Lib.hid OD
                 clear hwz hq NW OD hm1 hm2 hb1 hb2 hbn hh1 hm hnb))
          all_goals
            rw [HWZ.out, HQE.out]
            clear p0 r0 p1 r1 p2 r2 p3 r3 p4 r4 p5 r5
            have hbq := HNW.out.box
            have z0 := cell_of hbq 0
            have z1 := cell_of hbq 1
            have z2 := cell_of hbq 2
            have z3 := cell_of hbq 3
            have z4 := cell_of hbq 4
            obtain ⟨D5, d5, D6, d6, hN5⟩ := HOD.out.m
            have e0 := cell_of hN5.1 0
            have y0 := frozen_of hN5.1 0
            have e1 := cell_of hN5.1 1
            have y1 := frozen_of hN5.1 1
            have e2 := cell_of hN5.1 2
            have y2 := frozen_of hN5.1 2
            have e3 := cell_of hN5.1 3
            have y3 := frozen_of hN5.1 3
            have e4 := cell_of hN5.1 4
            have y4 := frozen_of hN5.1 4
            clear hN5 hbq
            go_wp2
            obtain ⟨wy, hwy⟩ : ∃ wy, put5 wz (w.heap.size + 1) G g G' g' m = wy := ⟨_, rfl⟩
            have HOY : Hid (Od w xs (putL b ys) ls (.slice (some ⟨gl, ol, none⟩) r c2) wy) := Lib.hid (by rw [← hwy]; exact HOD.out.setM HNW.out)
            unfold put5 at hwy
            rw [hwy]
            obtain ⟨j2, hj2⟩ : ∃ j2, j2 = q1 + 1 := ⟨_, rfl⟩
            have hw2 : IntKind.i64.wrap ((q1 : Int) + 1) = (j2 : Int) := by rw [wraps_i64 _ (by omega) (by omega)]; omega
            have hw3 : (j2 : Int) ≤ r := by omega
            have hw4 : (0 : Int) ≤ j2 := by omega
            have hw5 : (j2 : Int) ≤ c2 := by omega
            have hw6 : (q1 : Int) ≤ c2 := by omega
            have hw7 : (0 : Int) ≤ q1 := by omega
            have hj3 : q1 + 1 ≤ j2 := by omega
            have hj4 : j2 ≤ q1 + 1 := by omega
            have HLR : Hid (Reads wy wy.heap.size 1 (some ⟨gl, ol, none⟩) r (ls.map (Value.int .u8))) := Lib.hid (by have := HOY.out.l; rw [HLL.out] at this; exact this.reads)
            have HEM := Lib.hid (mid_empty wy)
            have HBA : Hid (Below wy.heap.size wy (wy.drew.alloc (.cells #[] 5))) := Lib.hid ((Below.refl _ _).drew.alloc (Nat.le_refl _) _)
            have HTK : Hid (∀ w', Below wy.heap.size wy w' → Reads w' wy.heap.size 1 (some ⟨gl, ol, none⟩) q1 ((ls.take q1).map (Value.int .u8))) := Lib.hid fun w' hb => by
              rw [List.map_take]; exact (HLR.out.below hb).tk (by omega)
            have HJ2 := Lib.hid hj2
            clear hwy z0 z1 z2 z3 z4 e0 e1 e2 e3 e4 y0 y1 y2 y3 y4 HOD HNW HOO HNN HML0 HGL HWZ HQE HML HAL HAS HAN HAQ HBN
            by_cases hcp : c2 = j2
            · obtain rfl : r = j2 := by omega
              subst hcp
              clear hj2
              go_region_held3 (fun _ => True) (exact trivial)
                (first
                  | (refine step_append_src (by rfl) _ _ _ (by rfl) wy.heap.size 5 ib _ 1 1 Try.underlying23 bi bz0 bz1 bz2 rfl (by omega) (.slice (some ⟨wy.heap.size, 0, none⟩) 0 0) 0 [] (by rfl) HEM.out wy.heap.size (some ⟨gl, ol, none⟩) q1 c2 ((ls.take q1).map (Value.int .u8)) (by rfl) (HTK.out _ HBA.out) (one_ints .u8 _) (by unfold maxLen; omega) (by omega) (by simp) ?_
                     intro v3 w3 hm3 hr3
                     have HB3 : Hid (Below wy.heap.size wy w3) := Lib.hid (HBA.out.grown hr3.grown HBA.out.size (fun k hk => (HEM.out.lt k hk).1))
                     have HM3 := Lib.hid hm3
                     clear hm3 hr3)
                  | (refine step_append_src (by rfl) _ _ _ (by rfl) wy.heap.size 5 ib _ 1 1 Try.underlying23 bi bz0 bz1 bz2 rfl (by omega) v3 (0 + q1) _ (by rfl) HM3.out wy.heap.size (some ⟨gl, ol, none⟩) 0 0 [] (by rfl) Reads.none_ (by simp) (by unfold maxLen; omega) (by omega) HB3.out.size ?_
                     intro v4 w4 hm4 hr4
                     have HB4 : Hid (Below wy.heap.size wy w4) := Lib.hid (HB3.out.grown hr4.grown HB3.out.size (fun k hk => (HM3.out.lt k hk).1))
                     rw [show 0 + q1 + 0 = c2 - 1 from by omega] at hm4
                     obtain ⟨A4, c4, rfl⟩ := hm4.form
                     have HM4 := Lib.hid hm4
                     clear hm4 hr4))
              all_goals
                have HM5 : Hid (Mid w4 wy.heap.size 5 1 (.slice A4 (c2 - 1) c4) (c2 - 1) ((ls.take q1 ++ ls.drop (q1 + 1)).map (Value.int .u8))) := Lib.hid (by have := HM4.out; rw [List.map_append]; rw [show ls.drop (q1 + 1) = [] from by rw [List.drop_eq_nil_iff]; have := HLL.out; omega]; simpa using this)
                have HOF : Hid (Od w xs (putL b ys) (ls.take q1 ++ ls.drop (q1 + 1)) (.slice A4 (c2 - 1) c4) w4) := Lib.hid (by
                  have h := HOY.out.keep HB4.out
                  have hl : (ls.take q1 ++ ls.drop (q1 + 1)).length = c2 - 1 := by simp; have := HLL.out; omega
                  exact ⟨h.bel, h.n, h.m, by rw [hl]; exact HM5.out.lower HOY.out.size⟩)
                go_wp2
                go_roundw
                case rel => exact ⟨t + 1, c2 - 1, c4, A4, rfl, by go_num, by omega, Lib.hid ⟨putL b ys, ls.take q1 ++ ls.drop (q1 + 1), by simp; have := HLL.out; omega, fun z hz => HBY.out z ((cut_mem HQL.out z).2 (.inr hz)), putL_pw b ys HP.out, byt_put HBX.out HB1.out.1 HB1.out.2, fun z => by
                  rw [putL_mem, ← HMEM.out, cut_mem HQL.out z, ← HBB.out]
                  constructor
                  · rintro ((a | a) | a)
                    · exact .inr (.inl a)
                    · exact .inl a
                    · exact .inr (.inr a)
                  · rintro (a | a | a)
                    · exact .inl (.inr a)
                    · exact .inl (.inl a)
                    · exact .inr a, by have := putL_len b ys; have := HLE.out; omega, HOF.out⟩⟩
                case measure => simp only [intOf]; omega
            · have HDR : Hid (∀ w', Below wy.heap.size wy w' → Reads w' wy.heap.size 1 (some ⟨gl, ol + j2, none⟩) (r - j2) ((ls.drop j2).map (Value.int .u8))) := Lib.hid fun w' hb => by
                have h := (HLR.out.below hb).cut (k := j2) (cap := c2) (by omega) (by omega)
                rw [if_neg hcp, Nat.mul_one, ← List.map_drop] at h
                simpa [Addr.add_lit] using h
              have hcq : ¬ (c2 : Int) = j2 := by omega
              clear hj2
              go_region_held3 (fun _ => True) (exact trivial)
                (first
                  | (refine step_append_src (by rfl) _ _ _ (by rfl) wy.heap.size 5 ib _ 1 1 Try.underlying23 bi bz0 bz1 bz2 rfl (by omega) (.slice (some ⟨wy.heap.size, 0, none⟩) 0 0) 0 [] (by rfl) HEM.out wy.heap.size (some ⟨gl, ol, none⟩) q1 c2 ((ls.take q1).map (Value.int .u8)) (by rfl) (HTK.out _ HBA.out) (one_ints .u8 _) (by unfold maxLen; omega) (by omega) (by simp) ?_
                     intro v3 w3 hm3 hr3
                     have HB3 : Hid (Below wy.heap.size wy w3) := Lib.hid (HBA.out.grown hr3.grown HBA.out.size (fun k hk => (HEM.out.lt k hk).1))
                     have HM3 := Lib.hid hm3
                     clear hm3 hr3)
                  | (refine step_append_src (by rfl) _ _ _ (by rfl) wy.heap.size 5 ib _ 1 1 Try.underlying23 bi bz0 bz1 bz2 rfl (by omega) v3 (0 + q1) _ (by rfl) HM3.out wy.heap.size (some ⟨gl, ol + j2, none⟩) (r - j2) (c2 - j2) ((ls.drop j2).map (Value.int .u8)) (by rfl) (HDR.out _ HB3.out) (one_ints .u8 _) (by unfold maxLen; omega) (by omega) HB3.out.size ?_
                     intro v4 w4 hm4 hr4
                     have HB4 : Hid (Below wy.heap.size wy w4) := Lib.hid (HB3.out.grown hr4.grown HB3.out.size (fun k hk => (HM3.out.lt k hk).1))
                     rw [show 0 + q1 + (r - j2) = r - 1 from by omega] at hm4
                     obtain ⟨A4, c4, rfl⟩ := hm4.form
                     have HM4 := Lib.hid hm4
                     clear hm4 hr4))
              all_goals
                have HM5 : Hid (Mid w4 wy.heap.size 5 1 (.slice A4 (r - 1) c4) (r - 1) ((ls.take q1 ++ ls.drop (q1 + 1)).map (Value.int .u8))) := Lib.hid (by have := HM4.out; rw [List.map_append]; rw [← HJ2.out]; simpa using this)
                have HOF : Hid (Od w xs (putL b ys) (ls.take q1 ++ ls.drop (q1 + 1)) (.slice A4 (r - 1) c4) w4) := Lib.hid (by
                  have h := HOY.out.keep HB4.out
                  have hl : (ls.take q1 ++ ls.drop (q1 + 1)).length = r - 1 := by simp; have := HLL.out; omega
                  exact ⟨h.bel, h.n, h.m, by rw [hl]; exact HM5.out.lower HOY.out.size⟩)
                go_wp2
                go_roundw
                case rel => exact ⟨t + 1, r - 1, c4, A4, rfl, by go_num, by omega, Lib.hid ⟨putL b ys, ls.take q1 ++ ls.drop (q1 + 1), by simp; have := HLL.out; omega, fun z hz => HBY.out z ((cut_mem HQL.out z).2 (.inr hz)), putL_pw b ys HP.out, byt_put HBX.out HB1.out.1 HB1.out.2, fun z => by
                  rw [putL_mem, ← HMEM.out, cut_mem HQL.out z, ← HBB.out]
                  constructor
                  · rintro ((a | a) | a)
                    · exact .inr (.inl a)
                    · exact .inl a
                    · exact .inr (.inr a)
                  · rintro (a | a | a)
                    · exact .inl (.inr a)
                    · exact .inl (.inl a)
                    · exact .inr a, by have := putL_len b ys; have := HLE.out; omega, HOF.out⟩⟩
                case measure => simp only [intOf]; omega
        · obtain rfl : r = 0 := by omega
          have hls : ls = [] := List.eq_nil_of_length_eq_zero hll
          subst hls
          have hxy : xs = ys := pw_eq xs ys HXS.out.1 hpw (fun z => by rw [HXS.out.2, ← hmem]; simp)
          subst hxy
          have HO9 := Lib.hid hO
          have HBX := Lib.hid hby
          have HPW := Lib.hid hpw
          obtain ⟨A3, c3, B3, e3, hN⟩ := hO.n
          obtain ⟨D, d, D', d', hM⟩ := hO.m
          obtain ⟨n, hn⟩ : ∃ n, n = xs.length := ⟨_, rfl⟩
          have hn2 : n ≤ 256 := by omega
          have HNN : Hid (n = xs.length) := Lib.hid hn
          have HLE : Hid (NodeL 4 0 ⟨#[]⟩ xs (xs.map kf) n) := Lib.hid ⟨by simp [highV]; omega, by decide, by decide, by decide, pw_asc hpw, kf_refs hby⟩
          have HN := Lib.hid hN
          unfold Nb at hN hM
          rw [← hn] at hN hM
          have p0 := cell_of hN.1 0
          have p1 := cell_of hN.1 1
          have p2 := cell_of hN.1 2
          have p3 := cell_of hN.1 3
          have p4 := cell_of hN.1 4
          have s0 := cell_of hM.1 0
          have s1 := cell_of hM.1 1
          have s2 := cell_of hM.1 2
          have s3 := cell_of hM.1 3
          have s4 := cell_of hM.1 4
          have HA := Lib.hid hN
          have HB := Lib.hid hM
          clear hpw hby hmem hlen hll hO hN hM hn H HXS
          have hq : ¬ ((0 : Int) > 0) := by omega
          have F1 : Hid True := trivial
          have F2 : Hid True := trivial
          go_wp2_with (first
            | (go_at_call 14; clear F1; refine (sameN_any 4 0 ⟨#[]⟩ A3 c3 B3 e3 D d D' d' n xs (xs.map kf) wr hn2 HA.out.2.1.reads HA.out.2.2.reads HB.out.2.1.reads HB.out.2.2.reads).mono ?_
               rintro e w1 ⟨rfl, hb1⟩
               have hk := HN.out.keep hb1
               unfold Nb at hk
               rw [← HNN.out] at hk
               have r0 := cell_of hk.1 0
               have r1 := cell_of hk.1 1
               have r2 := cell_of hk.1 2
               have r3 := cell_of hk.1 3
               have r4 := cell_of hk.1 4
               have HK := Lib.hid hk
               have HB1 := Lib.hid hb1
               clear hk hb1)
            | (go_at_call 21; clear F2; refine (right_any 4 0 ⟨#[]⟩ A3 c3 B3 e3 n xs (xs.map kf) w1 HLE.out hn2 HK.out.2.1.reads HK.out.2.2.reads).mono ?_
               rintro e w2 ⟨rfl, hb2⟩
               have HB2 := Lib.hid hb2
               clear hb2)
            | (go_at_call 13; refine (runs_any _).mono ?_
               rintro e w3 ⟨rfl, hb3⟩
               have HB3 := Lib.hid hb3
               clear hb3)
            | fail)
          go_ret
          have b0 := HO9.out.bel
          have b1 := b0.trans (HB1.out.mono b0.size)
          have b2 := b1.trans (HB2.out.mono b1.size)
          exact ⟨rfl, b2.trans (HB3.out.mono b2.size)⟩

end Go.Proofs.Ytononinmjijhoaa
