/-
  The law's made: a right node of any numbers; conditions: the arguments are what their types allow.
-/
import Derived.Test.YtononinmjijhoaaNde
import Derived.Test.YtononinmjijhoaaAnyT
import Derived.Laws.BitsAllLaws
import Derived.Laws.Bits64
import Derived.Deep.CutBlock
import Derived.Deep.CutRange
namespace Go.Proofs.Ytononinmjijhoaa
open Go.RowKit Go.WideShapes Go.ChangeShapes
set_option linter.all false
theorem notThree (ww : Int) (h0 : 0 ≤ ww) (h1 : ww < 18446744073709551616) : (bits .and .u64 (bits .andNot .u64 ww 3) 3 == 3) = false ∧ 0 ≤ bits .andNot .u64 ww 3 ∧ bits .andNot .u64 ww 3 < 18446744073709551616 := by
  rw [u64_andNot ww 3 h0 h1 (by omega) (by omega)]
  obtain ⟨a, rfl⟩ := Int.eq_ofNat_of_zero_le h0
  have ha : a < 2 ^ 64 := by omega
  rw [show ((a : Int).toNat &&& (18446744073709551615 - (3 : Int).toNat)) = a &&& 18446744073709551612 from rfl]
  have hx : a &&& 18446744073709551612 < 2 ^ 64 := Nat.lt_of_le_of_lt Nat.and_le_left ha
  have h3 : (a &&& 18446744073709551612) % 4 = 0 := by
    have : (a &&& 18446744073709551612) % 2 ^ 2 = (a &&& 18446744073709551612) &&& (2 ^ 2 - 1) := (Nat.and_two_pow_sub_one_eq_mod _ 2).symm
    rw [show (4 : Nat) = 2 ^ 2 from rfl, this, Nat.and_assoc]
    rw [show (18446744073709551612 &&& (2 ^ 2 - 1) : Nat) = 0 from by decide, Nat.and_zero]
  generalize a &&& 18446744073709551612 = x at hx h3
  have h2 := bits_mask .u64 64 (by decide) (fun n h0 h1 => by rw [IntKind.wrap_u64]; omega) 2 (by omega) (x : Int) (by omega) (by omega)
  refine ⟨?_, by omega, by omega⟩
  rw [show ((2 : Int) ^ 2 - 1) = 3 from by decide] at h2
  rw [h2, show ((2 : Int) ^ 2) = 4 from by decide]
  have : ((x : Int) % 4) = 0 := by omega
  rw [this]; decide
set_option maxRecDepth 100000 in
theorem high26_any (k : Int) (w : World) : Calls Try.prog 26 #[.int .i64 k] w fun e w' => e = .returned (.int .i64 (highV k)) ∧ w' = w := by
  by_cases h1 : k = 1
  · subst h1
    go_enter Try.func26, Try.ntmps26
    go_wp2
    go_ret
    exact ⟨rfl, rfl⟩
  · by_cases h2 : k = 2
    · subst h2
      go_enter Try.func26, Try.ntmps26
      go_wp2
      go_ret
      exact ⟨rfl, rfl⟩
    · by_cases h3 : k = 3
      · subst h3
        go_enter Try.func26, Try.ntmps26
        go_wp2
        go_ret
        exact ⟨rfl, rfl⟩
      · by_cases h4 : k = 4
        · subst h4
          go_enter Try.func26, Try.ntmps26
          go_wp2
          go_ret
          exact ⟨rfl, rfl⟩
        · have e1 : (k == 1) = false := by simpa using h1
          have e2 : (k == 2) = false := by simpa using h2
          have e3 : (k == 3) = false := by simpa using h3
          have e4 : (k == 4) = false := by simpa using h4
          have HV : Hid (highV k = 0) := Lib.hid (by unfold highV; rw [if_neg h1, if_neg h2, if_neg h3, if_neg h4])
          clear h1 h2 h3 h4
          go_enter Try.func26, Try.ntmps26
          go_wp2
          go_ret
          exact ⟨by rw [HV.out]; rfl, rfl⟩
/-- The node of made's own, its kind not yet settled. -/
structure Me (W : World) (kd wd : Int) (pf' : ByteArray) (D : Option Addr) (d : Nat) (D' : Option Addr) (d' m : Nat) (zs ks : List Int) (w : World) : Prop where
  bel : Below W.heap.size W w
  rbox : w.heap[W.heap.size + 1]? = some (.cells #[.int .i64 0, .int .u64 0, .string ⟨#[]⟩, .slice none 0 0, .slice none 0 0] 28 (0, 0))
  box : w.heap[W.heap.size + 1 + 1]? = some (.cells #[.int .i64 kd, .int .u64 wd, .string pf', .slice D m d, .slice D' m d'] 28 (0, 0))
  x : Mid w W.heap.size 5 1 (.slice D m d) m (zs.map (Value.int .u8))
  y : Mid w W.heap.size 3 1 (.slice D' m d') m (ks.map (Value.int .i64))
theorem Me.drewN {W w : World} {kd wd : Int} {pf' : ByteArray} {D : Option Addr} {d : Nat} {D' : Option Addr} {d' m : Nat} {zs ks : List Int} (h : Me W kd wd pf' D d D' d' m zs ks w) (k : Nat) : Me W kd wd pf' D d D' d' m zs ks (w.drewN k) :=
  ⟨belowN h.bel k, h.rbox, h.box, h.x.same fun _ _ => rfl, h.y.same fun _ _ => rfl⟩
theorem Me.kind {W w : World} {kd wd : Int} {pf' : ByteArray} {D : Option Addr} {d : Nat} {D' : Option Addr} {d' m : Nat} {zs ks : List Int} (h : Me W kd wd pf' D d D' d' m zs ks w) (k : Int) : Me W k wd pf' D d D' d' m zs ks (w.setCell ⟨W.heap.size + 1 + 1, 0, none⟩ (.int .i64 k)) :=
  ⟨h.bel.setCell (p := ⟨W.heap.size + 1 + 1, 0, none⟩) (by show W.heap.size ≤ W.heap.size + 1 + 1; omega) _, heap_far (by show W.heap.size + 1 ≠ W.heap.size + 1 + 1; omega) h.rbox, heap_setCell_same _ _ 0 _ _ (.int .i64 k) h.box,
    h.x.same fun g hg => heap_far (h.x.nobox h.box (by decide) hg) rfl, h.y.same fun g hg => heap_far (h.y.nobox h.box (by decide) hg) rfl⟩
/-- The kind that stands in the node's box. -/
def kindOf (W w : World) : Nat := match w.cell? ⟨W.heap.size + 1 + 1, 0, none⟩ with | some v => (intOf v).toNat | none => 0
theorem Me.kindOf_ {W w : World} {kd : Nat} {wd : Int} {pf' : ByteArray} {D : Option Addr} {d : Nat} {D' : Option Addr} {d' m : Nat} {zs ks : List Int} (h : Me W (kd : Int) wd pf' D d D' d' m zs ks w) : kindOf W w = kd := by
  unfold kindOf
  rw [cell_of h.box 0]
  simp [intOf]
/-- What made brings back. -/
def MadeR (W : World) (e : Ending) (w' : World) : Prop := ∃ v kd wd pf zs ks m, e = .returned v ∧ NodeL kd wd pf zs ks m ∧ m ≤ 256 ∧ Pw zs ∧ Byt zs ∧ 1 ≤ kd ∧ kd ≤ 4 ∧ 0 ≤ wd ∧ wd < 18446744073709551616 ∧ NV W.heap.size kd wd pf zs ks m W v w'
/-- The three boxes of made, and all below as it was. -/
structure M0 (W : World) (kk ww : Int) (pf : ByteArray) (A : Option Addr) (n c : Nat) (fr wd : Int) (pf' : ByteArray) (w : World) : Prop where
  bel : Below W.heap.size W w
  short : pf'.size ≤ 12
  kbox : w.heap[W.heap.size]? = some (.cells #[.int .i64 kk, .int .u64 ww, .string pf, .slice A n c, .int .i64 fr] 25 (0, 0))
  rbox : w.heap[W.heap.size + 1]? = some (.cells #[.int .i64 0, .int .u64 0, .string ⟨#[]⟩, .slice none 0 0, .slice none 0 0] 28 (0, 0))
  nbox : w.heap[W.heap.size + 1 + 1]? = some (.cells #[.int .i64 0, .int .u64 wd, .string pf', .slice none 0 0, .slice none 0 0] 28 (0, 0))
  size : w.heap.size = W.heap.size + 3
/-- What made's loops hold. -/
structure Md (W : World) (kk ww : Int) (pf : ByteArray) (A : Option Addr) (n c : Nat) (fr wd : Int) (pf' : ByteArray) (Q : Nat) (D : Option Addr) (d : Nat) (D' : Option Addr) (d' mx my : Nat) (zs ks : List Int) (w : World) : Prop where
  bel : Below W.heap.size W w
  kbox : w.heap[W.heap.size]? = some (.cells #[.int .i64 kk, .int .u64 ww, .string pf, .slice A n c, .int .i64 fr] 25 (0, 0))
  rbox : w.heap[W.heap.size + 1]? = some (.cells #[.int .i64 0, .int .u64 0, .string ⟨#[]⟩, .slice none 0 0, .slice none 0 0] 28 (0, 0))
  box : w.heap[W.heap.size + 1 + 1]? = some (.cells #[.int .i64 0, .int .u64 wd, .string pf', .slice D mx d, .slice D' my d'] 28 (0, 0))
  x : Mid w W.heap.size 5 1 (.slice D mx d) mx (zs.map (Value.int .u8))
  y : Mid w W.heap.size 3 1 (.slice D' my d') my (ks.map (Value.int .i64))
  arr : ∃ cs, w.heap[Q]? = some (.cells cs 55 (0, 0)) ∧ ∀ j, j < 256 → ∃ b, cs[j]? = some (.bool b)
  far : W.heap.size + 3 ≤ Q
theorem zero55 : ∀ j, j < 256 → ∃ b, Try.zeroCells55[j]? = some (.bool b) := by
  have h : (List.range 256).all (fun j => match Try.zeroCells55[j]? with | some (.bool _) => true | _ => false) = true := by kernel_rfl
  intro j hj
  have := List.all_eq_true.1 h j (List.mem_range.2 hj)
  split at this
  · rename_i b hb; exact ⟨b, hb⟩
  · cases this
theorem M0.md {W w : World} {kk ww : Int} {pf : ByteArray} {A : Option Addr} {n c : Nat} {fr wd : Int} {pf' : ByteArray} (h : M0 W kk ww pf A n c fr wd pf' w) : Md W kk ww pf A n c fr wd pf' w.heap.size none 0 none 0 0 0 [] [] (w.alloc (.cells Try.zeroCells55 55)) := by
  have hs := h.size
  exact ⟨h.bel.alloc (by omega) _, (heap_alloc_old _ _ (by omega)).trans h.kbox, (heap_alloc_old _ _ (by omega)).trans h.rbox, (heap_alloc_old _ _ (by omega)).trans h.nbox, Mid.nil _ _ _ _, Mid.nil _ _ _ _, ⟨_, heap_alloc_new _ _, zero55⟩, by omega⟩
theorem Mid.notype {w : World} {B n q : Nat} {t T : TypeId} {v : Value} {xs : List Value} {cs : Array Value} {fr : Nat × Nat} (h : Mid w B t 1 v n xs) (hq : w.heap[q]? = some (.cells cs T fr)) (ht : t ≠ T) {g : Nat} (hg : v.ownBlock = some g) : g ≠ q := by
  rintro rfl
  rcases h.2 with ⟨rfl, _⟩ | ⟨g', off, cap, cur, rfl, _, hh, _⟩
  · cases hg
  · have e : g' = g := by simpa [Value.ownBlock] using hg
    subst e
    rw [hh] at hq
    simp only [Option.some.injEq, Obj.cells.injEq] at hq
    exact ht hq.2.1
theorem Md.mark {W w : World} {kk ww : Int} {pf : ByteArray} {A : Option Addr} {n c : Nat} {fr wd : Int} {pf' : ByteArray} {Q : Nat} {D : Option Addr} {d : Nat} {D' : Option Addr} {d' mx my : Nat} {zs ks : List Int} (h : Md W kk ww pf A n c fr wd pf' Q D d D' d' mx my zs ks w) (x : Nat) (hx : x < 256) (b : Bool) : Md W kk ww pf A n c fr wd pf' Q D d D' d' mx my zs ks (w.setCell ⟨Q, x, none⟩ (.bool b)) := by
  have hf := h.far
  obtain ⟨cs, hq, hc⟩ := h.arr
  refine ⟨h.bel.setCell (p := ⟨Q, x, none⟩) (by show W.heap.size ≤ Q; omega) _, heap_far (by show W.heap.size ≠ Q; omega) h.kbox, heap_far (by show W.heap.size + 1 ≠ Q; omega) h.rbox, heap_far (by show W.heap.size + 1 + 1 ≠ Q; omega) h.box, h.x.same fun g hg => heap_far (h.x.notype hq (by decide) hg) rfl, h.y.same fun g hg => heap_far (h.y.notype hq (by decide) hg) rfl, ⟨_, heap_setCell_same _ _ _ _ _ _ hq, fun j hj => ?_⟩, hf⟩
  rw [Array.getElem?_setIfInBounds]
  split
  · rename_i e; subst e
    obtain ⟨b', hb'⟩ := hc x hx
    have : x < cs.size := by
      rcases Nat.lt_or_ge x cs.size with q | q
      · exact q
      · rw [Array.getElem?_eq_none q] at hb'; cases hb'
    rw [if_pos this]; exact ⟨b, rfl⟩
  · exact hc j hj
theorem Md.keep {W w : World} {kk ww : Int} {pf : ByteArray} {A : Option Addr} {n c : Nat} {fr wd : Int} {pf' : ByteArray} {Q : Nat} {D : Option Addr} {d : Nat} {D' : Option Addr} {d' mx my : Nat} {zs ks : List Int} {w' : World} (h : Md W kk ww pf A n c fr wd pf' Q D d D' d' mx my zs ks w) (k : Below w.heap.size w w') : Md W kk ww pf A n c fr wd pf' Q D d D' d' mx my zs ks w' := by
  obtain ⟨cs, hq, hc⟩ := h.arr
  exact ⟨h.bel.trans (k.mono h.bel.size), (heap_below k (lt_of_heap h.kbox)).trans h.kbox, (heap_below k (lt_of_heap h.rbox)).trans h.rbox, (heap_below k (lt_of_heap h.box)).trans h.box, h.x.same fun g hg => heap_below k (h.x.lt g hg).2, h.y.same fun g hg => heap_below k (h.y.lt g hg).2, ⟨cs, (heap_below k (lt_of_heap hq)).trans hq, hc⟩, h.far⟩
theorem Md.app_x {W w : World} {kk ww : Int} {pf : ByteArray} {A : Option Addr} {n c : Nat} {fr wd : Int} {pf' : ByteArray} {Q : Nat} {D : Option Addr} {d : Nat} {D' : Option Addr} {d' mx my : Nat} {zs ks : List Int} {w3 : World} {G : Option Addr} {g : Nat} {zs' : List Int} (h : Md W kk ww pf A n c fr wd pf' Q D d D' d' mx my zs ks w) (hr : Ran (.slice D mx d) (.slice G (mx + 1) g) w w3) (hm : Mid w3 W.heap.size 5 1 (.slice G (mx + 1) g) (mx + 1) (zs'.map (Value.int .u8))) :
    w3.heap[W.heap.size + 1 + 1]? = some (.cells #[.int .i64 0, .int .u64 wd, .string pf', .slice D mx d, .slice D' my d'] 28 (0, 0)) ∧ Md W kk ww pf A n c fr wd pf' Q G g D' d' (mx + 1) my zs' ks (w3.setCell ⟨W.heap.size + 1 + 1, 3, none⟩ (.slice G (mx + 1) g)) := by
  obtain ⟨cs, hq, hc⟩ := h.arr
  have hf := h.far
  have kb := hr.keep (lt_of_heap h.kbox) (fun e => h.x.notype h.kbox (by decide) e.symm rfl) h.kbox
  have rb := hr.keep (lt_of_heap h.rbox) (fun e => h.x.notype h.rbox (by decide) e.symm rfl) h.rbox
  have nb := hr.keep (lt_of_heap h.box) (fun e => h.x.notype h.box (by decide) e.symm rfl) h.box
  have ab := hr.keep (lt_of_heap hq) (fun e => h.x.notype hq (by decide) e.symm rfl) hq
  have y3 : Mid w3 W.heap.size 3 1 (.slice D' my d') my (ks.map (Value.int .i64)) := h.y.same fun k hk => hr.keep (h.y.lt k hk).2 (fun e => Mid.apart h.x h.y e.symm hk rfl) rfl
  exact ⟨nb, (h.bel.trans (hr.below h.bel.size fun k hk => (h.x.lt k hk).1)).setCell (p := ⟨W.heap.size + 1 + 1, 3, none⟩) (by show W.heap.size ≤ W.heap.size + 1 + 1; omega) _, heap_far (by show W.heap.size ≠ W.heap.size + 1 + 1; omega) kb, heap_far (by show W.heap.size + 1 ≠ W.heap.size + 1 + 1; omega) rb, heap_setCell_same _ _ 3 _ _ (.slice G (mx + 1) g) nb,
    hm.same fun k hk => heap_far (hm.notype nb (by decide) hk) rfl, y3.same fun k hk => heap_far (y3.notype nb (by decide) hk) rfl, ⟨cs, heap_far (by show Q ≠ W.heap.size + 1 + 1; omega) ab, hc⟩, hf⟩
theorem Md.app_y {W w : World} {kk ww : Int} {pf : ByteArray} {A : Option Addr} {n c : Nat} {fr wd : Int} {pf' : ByteArray} {Q : Nat} {D : Option Addr} {d : Nat} {D' : Option Addr} {d' mx my : Nat} {zs ks : List Int} {w3 : World} {G : Option Addr} {g : Nat} {ks' : List Int} (h : Md W kk ww pf A n c fr wd pf' Q D d D' d' mx my zs ks w) (hr : Ran (.slice D' my d') (.slice G (my + 1) g) w w3) (hm : Mid w3 W.heap.size 3 1 (.slice G (my + 1) g) (my + 1) (ks'.map (Value.int .i64))) :
    w3.heap[W.heap.size + 1 + 1]? = some (.cells #[.int .i64 0, .int .u64 wd, .string pf', .slice D mx d, .slice D' my d'] 28 (0, 0)) ∧ w3.heap[W.heap.size]? = w.heap[W.heap.size]? ∧ Md W kk ww pf A n c fr wd pf' Q D d G g mx (my + 1) zs ks' (w3.setCell ⟨W.heap.size + 1 + 1, 4, none⟩ (.slice G (my + 1) g)) := by
  obtain ⟨cs, hq, hc⟩ := h.arr
  have hf := h.far
  have kb := hr.keep (lt_of_heap h.kbox) (fun e => h.y.notype h.kbox (by decide) e.symm rfl) h.kbox
  have rb := hr.keep (lt_of_heap h.rbox) (fun e => h.y.notype h.rbox (by decide) e.symm rfl) h.rbox
  have nb := hr.keep (lt_of_heap h.box) (fun e => h.y.notype h.box (by decide) e.symm rfl) h.box
  have ab := hr.keep (lt_of_heap hq) (fun e => h.y.notype hq (by decide) e.symm rfl) hq
  have x3 : Mid w3 W.heap.size 5 1 (.slice D mx d) mx (zs.map (Value.int .u8)) := h.x.same fun k hk => hr.keep (h.x.lt k hk).2 (fun e => Mid.apart h.x h.y hk e.symm rfl) rfl
  exact ⟨nb, by rw [kb, h.kbox], (h.bel.trans (hr.below h.bel.size fun k hk => (h.y.lt k hk).1)).setCell (p := ⟨W.heap.size + 1 + 1, 4, none⟩) (by show W.heap.size ≤ W.heap.size + 1 + 1; omega) _, heap_far (by show W.heap.size ≠ W.heap.size + 1 + 1; omega) kb, heap_far (by show W.heap.size + 1 ≠ W.heap.size + 1 + 1; omega) rb, heap_setCell_same _ _ 4 _ _ (.slice G (my + 1) g) nb,
    x3.same fun k hk => heap_far (x3.notype nb (by decide) hk) rfl, hm.same fun k hk => heap_far (hm.notype nb (by decide) hk) rfl, ⟨cs, heap_far (by show Q ≠ W.heap.size + 1 + 1; omega) ab, hc⟩, hf⟩
theorem pw_snoc {zs : List Int} {b : Int} (h : Pw zs) (hb : ∀ z ∈ zs, z < b) : Pw (zs ++ [b]) := by
  rw [Pw, List.pairwise_append]
  exact ⟨h, by simp, fun a ha c hc => by simp at hc; subst hc; exact hb a ha⟩
theorem refs_snoc {ks : List Int} {s g : Int} {l : Bool} (h : Refs ks) (h0 : 0 ≤ s) (h1 : s < 1024) (h2 : 1 ≤ g) (h3 : g ≤ 1073741824) : Refs (ks ++ [refV s g l]) := by
  intro i hi
  rw [List.length_append, List.length_singleton] at hi
  rcases Nat.lt_or_ge i ks.length with q | q
  · obtain ⟨s', g', l', e, r⟩ := h i q
    refine ⟨s', g', l', ?_, r⟩
    rw [← e]; simp [List.getD_eq_getElem?_getD, List.getElem?_append_left q]
  · obtain rfl : i = ks.length := by omega
    exact ⟨s, g, l, by simp [List.getD_eq_getElem?_getD], h0, h1, h2, h3⟩
section
variable {P : Program} {w : World} {size n : Nat} {xs : List Value}
theorem wpList_append_mid {ops : Array Oper} {rest : List Oper} {o : Oper} {a : Act} {Q : Exit → Act → World → Prop} (hg : o.guard = none) (s x : Operand) (t : TypeId)
    (ho : o.op = .call { callee := .builtin .append, args := #[s, x], argTypes := #[t, t] })
    (base : Nat) (e : TypeId) (i : TypeInfo) (z : Value) (size bytes : Nat) (ht : P.underlying t = some (.slice e)) (hi : P.info? e = some i) (hz : i.zero = some z)
    (hsize : i.size = size) (hby : i.bytes = bytes) (hzs : z.cells.size = size) (hsz : 0 < size) (v : Value) (n : Nat) (xs : List Value) (hs : a.eval s = v) (h : Mid w base e size v n xs)
    (ad : Addr) (m c : Nat) (news : List Value) (hx : a.eval x = .slice (some ad) m c) (hl : news.length = m * size) (hnews : ∀ j u, news[j]? = some u → w.cell? (ad.add j) = some u) (h1 : ∀ u ∈ news, u.oneCell' = true)
    (h63 : n + m ≤ maxLen) (hbytes : (n + m) * bytes ≤ 140737488355328) (hbase : base ≤ w.heap.size)
    (hK : ∀ v' w', Mid w' base e size v' (n + m) (xs ++ news) → Ran v v' w w' → wpList P ops Q rest (a.put o.dst v') w') : wpList P ops Q (o :: rest) a w :=
  wpList_plain hg fun K hK' => wp_append_mid s x t ho base e i z size bytes ht hi hz hsize hby hzs hsz v n xs hs h ad m c news hx hl hnews h1 h63 hbytes hbase (fun v' w' q1 q2 => hK' _ _ (hK v' w' q1 q2))
end
set_option maxRecDepth 100000 in
set_option maxHeartbeats 6400000 in
theorem made_any (kk ww : Int) (pf : ByteArray) (A : Option Addr) (n c : Nat) (xs : List Int) (fr : Int) (w : World) (hx : Reads w w.heap.size 1 A n (xs.map (Value.int .u8))) (hb : Byt xs) (hn : n ≤ maxLen) (hp : pf.size ≤ maxLen) (hw0 : 0 ≤ ww) (hw1 : ww < 18446744073709551616) :
    Calls Try.prog 9 #[.agg #[.int .i64 kk, .int .u64 ww, .string pf, .slice A n c, .int .i64 fr]] w (MadeR w) := by
  obtain ⟨ib, bi, bz0, bz1, bz2⟩ := info_parts infoB
  obtain ⟨ii, ji, jz0, jz1, jz2⟩ := info_parts infoI
  have HX := Lib.hid hx
  have HBY := Lib.hid hb
  have LX : Hid (xs.length = n) := Lib.hid (klen hx)
  obtain ⟨wd, hwd⟩ : ∃ wd, wd = bits .andNot .u64 ww 3 := ⟨_, rfl⟩
  have HWD := Lib.hid hwd
  obtain ⟨wb, hwb⟩ : ∃ wb, ((w.alloc (.cells #[.int .i64 kk, .int .u64 ww, .string pf, .slice A n c, .int .i64 fr] 25)).alloc (.cells #[.int .i64 0, .int .u64 0, .string ⟨#[]⟩, .slice none 0 0, .slice none 0 0] 28)).alloc (.cells #[.int .i64 0, .int .u64 wd, .string pf, .slice none 0 0, .slice none 0 0] 28) = wb := ⟨_, rfl⟩
  have HW := Lib.hid hwb
  have HSZ : Hid (wb.heap.size = w.heap.size + 3) := Lib.hid (by rw [← hwb]; simp)
  have HBW : Hid (Below w.heap.size w wb) := Lib.hid (by rw [← hwb]; exact (((Below.refl _ _).alloc (Nat.le_refl _) _).alloc (by simp) _).alloc (by simp; omega) _)
  have b0 : wb.heap[w.heap.size]? = some (.cells #[.int .i64 kk, .int .u64 ww, .string pf, .slice A n c, .int .i64 fr] 25 (0, 0)) := by
    rw [← hwb, heap_alloc_old _ _ (by simp; omega), heap_alloc_old _ _ (by simp)]; exact heap_alloc_new _ _
  have b1 : wb.heap[w.heap.size + 1]? = some (.cells #[.int .i64 0, .int .u64 0, .string ⟨#[]⟩, .slice none 0 0, .slice none 0 0] 28 (0, 0)) := by
    rw [← hwb, heap_alloc_old _ _ (by simp)]
    have := heap_alloc_new (w.alloc (.cells #[.int .i64 kk, .int .u64 ww, .string pf, .slice A n c, .int .i64 fr] 25)) (.cells #[.int .i64 0, .int .u64 0, .string ⟨#[]⟩, .slice none 0 0, .slice none 0 0] 28)
    simpa using this
  have b2 : wb.heap[w.heap.size + 1 + 1]? = some (.cells #[.int .i64 0, .int .u64 wd, .string pf, .slice none 0 0, .slice none 0 0] 28 (0, 0)) := by
    rw [← hwb]
    have := heap_alloc_new ((w.alloc (.cells #[.int .i64 kk, .int .u64 ww, .string pf, .slice A n c, .int .i64 fr] 25)).alloc (.cells #[.int .i64 0, .int .u64 0, .string ⟨#[]⟩, .slice none 0 0, .slice none 0 0] 28)) (.cells #[.int .i64 0, .int .u64 wd, .string pf, .slice none 0 0, .slice none 0 0] 28)
    simpa using this
  have HB0 := Lib.hid b0
  have HB1 := Lib.hid b1
  have HB2 := Lib.hid b2
  have q2 := cell_of b2 2
  have g2 := frozen_of b2 2
  have HWX := Lib.hid (And.intro hw0 hw1)
  clear hx hb b0 b1 b2 hwd hwb hw0 hw1
  go_enter Try.func9, Try.ntmps9
  go_upto_if 16 with (fail)
  rw [← HWD.out, HW.out]
  go_cut [16] from 17 to 21 (fun _ wx => Hid (∃ pf', M0 w kk ww pf A n c fr wd pf' wx))
  case first =>
    by_cases h12 : 12 < pf.size
    · have h13 : (12 : Int) < (pf.size : Int) := by omega
      have HP : Hid ((pf.extract 0 12).size ≤ 12) := Lib.hid (by rw [ByteArray.size_extract]; omega)
      go_wp2
      go_meet
      exact Lib.hid ⟨pf.extract 0 12, HBW.out.setCell (p := ⟨w.heap.size + 1 + 1, 2, none⟩) (by show w.heap.size ≤ w.heap.size + 1 + 1; omega) _, HP.out, heap_far (by show w.heap.size ≠ w.heap.size + 1 + 1; omega) HB0.out, heap_far (by show w.heap.size + 1 ≠ w.heap.size + 1 + 1; omega) HB1.out, heap_setCell_same _ _ _ _ _ _ HB2.out, by simp; exact HSZ.out⟩
    · have h13 : ¬ (12 : Int) < (pf.size : Int) := by omega
      go_wp2
      go_meet
      exact Lib.hid ⟨pf, HBW.out, by omega, HB0.out, HB1.out, HB2.out, HSZ.out⟩
  obtain ⟨pf', hM⟩ := hcut.out
  rename World => wm
  have HM := Lib.hid hM
  have HPF : Hid (pf'.size ≤ 12) := Lib.hid hM.short
  have HD := Lib.hid hM.md
  clear q2 g2 HB0 HB1 HB2 HBW HSZ HW hcut hM HM
  go_upto_block 0 with (fail)
  generalize wm.heap.size = Q at *
  go_cut [5] from 21 to 38 (fun _ wx => Hid (Md w kk ww pf A n c fr wd pf' Q none 0 none 0 0 0 [] [] wx))
  case first =>
    go_wp2
    go_loopw [5] (fun i wr => ∃ j : Nat, i = .int .i64 j ∧ j ≤ n ∧ j ≤ 300 ∧ Hid (Md w kk ww pf A n c fr wd pf' Q none 0 none 0 0 0 [] [] wr)) (fun i _ => 300 - (intOf i).toNat)
    case atStart => exact ⟨0, rfl, Nat.zero_le _, Nat.zero_le _, HD⟩
    case round =>
      obtain ⟨j, rfl, hj, hj3, H⟩ := hrel
      have k3 := cell_of H.out.kbox 3
      by_cases hin : j < n ∧ j < 300
      · obtain ⟨h1, h2⟩ := hin
        obtain ⟨ad, rfl, hab, g0⟩ := kget HX.out h1
        have g1 : wr.cell? (ad.add j) = some (.int .u8 (xs.getD j 0)) := (H.out.bel.cell (by rw [block_of_add]; exact hab)).trans g0
        have hbx := HBY.out (xs.getD j 0) (by
          have : j < xs.length := by rw [LX.out]; exact h1
          rw [List.getD_eq_getElem?_getD, List.getElem?_eq_getElem this]; exact List.getElem_mem this)
        generalize xs.getD j 0 = x0 at g1 hbx
        obtain ⟨x, rfl⟩ := Int.eq_ofNat_of_zero_le hbx.1
        have hx9 : x < 256 := by omega
        obtain ⟨cs, hq, hc⟩ := H.out.arr
        obtain ⟨b0, hb0⟩ := hc x hx9
        have z0 : wr.cell? ⟨Q, x, none⟩ = some (.bool b0) := (cell_of hq x).trans hb0
        have z1 : wr.frozen? ⟨Q, x, none⟩ = false := frozen_of hq x
        have H2 := Lib.hid (H.out.mark x hx9 true)
        clear hq hc hb0 g0 hab hbx
        have hj1 : (j : Int) < n := by omega
        have hj2 : (j : Int) < 300 := by omega
        have hx1 : (x : Int) < 256 := by omega
        go_wp2
        go_roundw
        case rel => exact ⟨j + 1, by go_num, by omega, by omega, H2⟩
        case measure => simp only [intOf]; omega
      · rcases (show ¬ (j : Int) < n ∨ (j < n ∧ ¬ (j : Int) < 300) by omega) with hg | ⟨hg0, hg⟩
        all_goals
          go_wp2
          go_meet
          exact H
  have HD1 := hcut
  rename World => wl
  clear hcut HD HX HBY LX
  go_wp2
  go_loopw [6] (fun i wr => ∃ (b m : Nat) (D : Option Addr) (d : Nat) (D' : Option Addr) (d' : Nat) (zs ks : List Int), i = .int .i64 b ∧ b ≤ 256 ∧ m ≤ b ∧ Hid (Md w kk ww pf A n c fr wd pf' Q D d D' d' m m zs ks wr ∧ Pw zs ∧ (∀ z ∈ zs, 0 ≤ z ∧ z < (b : Int)) ∧ Refs ks)) (fun i _ => 256 - (intOf i).toNat)
  case atStart => exact ⟨0, 0, none, 0, none, 0, [], [], rfl, by omega, by omega, Lib.hid ⟨HD1.out, by simp [Pw], by simp, by intro i hi; simp at hi⟩⟩
  case round =>
    obtain ⟨b, m, D, d, D', d', zs, ks, rfl, hb, hm, H⟩ := hrel
    have HM := Lib.hid H.out.1
    have HPW := Lib.hid H.out.2.1
    have HZS := Lib.hid H.out.2.2.1
    have HKS := Lib.hid H.out.2.2.2
    clear H
    by_cases hlt : b < 256
    · obtain ⟨cs, hq, hc⟩ := HM.out.arr
      obtain ⟨bv, hbv⟩ := hc b hlt
      have z0 : wr.cell? ⟨Q, b, none⟩ = some (.bool bv) := (cell_of hq b).trans hbv
      clear hq hc hbv
      have hb1 : (b : Int) < 256 := by omega
      cases bv
      · go_wp2
        go_roundw
        case rel => exact ⟨b + 1, m, D, d, D', d', zs, ks, by go_num, by omega, by omega, Lib.hid ⟨HM.out, HPW.out, fun z hz => by have := HZS.out z hz; omega, HKS.out⟩⟩
        case measure => simp only [intOf]; omega
      · have n3 := cell_of HM.out.box 3
        have hbs : 0 ≤ (b : Int) := by omega
        obtain ⟨b1, hb1e⟩ : ∃ b1, b1 = b + 1 := ⟨_, rfl⟩
        have hwb : IntKind.i64.wrap (1 + (b : Int)) = (b1 : Int) := by rw [wraps_i64 _ (by omega) (by omega)]; omega
        have HB1 := Lib.hid hb1e
        clear hb1e
        have HMA := Lib.hid (HM.out.keep ((Below.refl wr.heap.size wr).alloc (Nat.le_refl _) (.cells #[.int .u8 b] 5)))
        go_upto_region 14 with (first
          | (refine wpList_append_mid rfl (.tmp 46) (.tmp 49) 23 rfl w.heap.size 5 ib _ 1 1 Try.underlying23 bi bz0 bz1 bz2 rfl (by omega) (.slice D m d) m _ rfl HMA.out.x ⟨_, 0, none⟩ 1 1 [.int .u8 b] rfl rfl (World.news_of_block (cs := #[.int .u8 b]) (t := 5) (fr := (0, 0)) (heap_alloc_new _ _)) (by simp [Value.oneCell']) (by unfold maxLen; omega) (by omega) (by have := HM.out.bel.size; simp; omega) ?_
             intro v3 w3 hm3 hr3
             obtain ⟨G, g, rfl⟩ := hm3.form
             have hx := HMA.out.app_x (zs' := zs ++ [(b : Int)]) hr3 (by rw [List.map_append]; exact hm3)
             have q3 := cell_of hx.1 3
             have g3 := frozen_of hx.1 3
             obtain ⟨w4, hw4⟩ : ∃ w4, w3.setCell ⟨w.heap.size + 1 + 1, 3, none⟩ (.slice G (m + 1) g) = w4 := ⟨_, rfl⟩
             have HX4 : Hid (Md w kk ww pf A n c fr wd pf' Q G g D' d' (m + 1) m (zs ++ [(b : Int)]) ks w4) := Lib.hid (by rw [← hw4]; exact hx.2)
             have HW4 := Lib.hid hw4
             clear hm3 hr3 hx hw4)
          | fail)
        rw [HW4.out]
        clear n3 z0 q3 g3 HMA HW4
        have h4 := cell_of HX4.out.box 4
        have hk4 := cell_of HX4.out.kbox 4
        have hS : ((fun w' => w'.cell? ⟨w.heap.size + 1 + 1, 4, none⟩ = some (.slice D' m d') ∧ w'.cell? ⟨w.heap.size, 4, none⟩ = some (.int .i64 fr))) w4.drew := ⟨h4, hk4⟩
        refine wp_region_T (fun w' => w'.cell? ⟨w.heap.size + 1 + 1, 4, none⟩ = some (.slice D' m d') ∧ w'.cell? ⟨w.heap.size, 4, none⟩ = some (.int .i64 fr)) 16 (by kernel_rfl) ?_
        refine wpAnyT_take (i := 0) (oi := _) (v := ?_) (by rfl) (by kernel_rfl) (by intro _ _ _ h; exact h) hS (Or.inl ⟨by rfl, ?_⟩) ?_
        rotate_left 1
        · intro w' ⟨hl1, hl2⟩
          go_simp
          all_goals with_reducible rfl
        simp only [Act.put, List.setIfInBounds_toArray, List.set_cons_zero, List.set_cons_succ]
        refine wpAnyT_take (i := 1) (oi := _) (v := ?_) (by rfl) (by kernel_rfl) (by intro _ _ _ h; exact h) hS (Or.inl ⟨by rfl, ?_⟩) ?_
        rotate_left 1
        · intro w' ⟨hl1, hl2⟩
          go_simp
          all_goals with_reducible rfl
        simp only [Act.put, List.setIfInBounds_toArray, List.set_cons_zero, List.set_cons_succ]
        refine wpAnyT_take (i := 2) (oi := _) (v := ?_) (by rfl) (by kernel_rfl) (by intro _ _ _ h; exact h) hS (Or.inl ⟨by rfl, ?_⟩) ?_
        rotate_left 1
        · intro w' ⟨hl1, hl2⟩
          go_simp
          all_goals with_reducible rfl
        simp only [Act.put, List.setIfInBounds_toArray, List.set_cons_zero, List.set_cons_succ]
        refine wpAnyT_take (i := 3) (oi := _) (v := ?_) (by rfl) (by kernel_rfl) (by intro _ _ _ h; exact h) hS (Or.inl ⟨by rfl, ?_⟩) ?_
        rotate_left 1
        · intro w' ⟨hl1, hl2⟩
          go_simp
          all_goals with_reducible rfl
        simp only [Act.put, List.setIfInBounds_toArray, List.set_cons_zero, List.set_cons_succ]
        refine wpAnyT_take (i := 4) (oi := _) (v := ?_) (by rfl) (by kernel_rfl) (by intro _ _ _ h; exact h) hS (Or.inl ⟨by rfl, ?_⟩) ?_
        rotate_left 1
        · intro w' ⟨hl1, hl2⟩
          go_simp
          all_goals with_reducible rfl
        simp only [Act.put, List.setIfInBounds_toArray, List.set_cons_zero, List.set_cons_succ]
        refine wpAnyT_take (i := 7) (oi := _) (v := ?_) (by rfl) (by kernel_rfl) (by intro _ _ _ h; exact h) hS (Or.inl ⟨by rfl, ?_⟩) ?_
        rotate_left 1
        · intro w' ⟨hl1, hl2⟩
          go_simp
          all_goals with_reducible rfl
        simp only [Act.put, List.setIfInBounds_toArray, List.set_cons_zero, List.set_cons_succ]
        refine wpAnyT_take (i := 9) (oi := _) (v := ?_) (by rfl) (by kernel_rfl) (by intro _ _ _ h; exact h) hS (Or.inl ⟨by rfl, ?_⟩) ?_
        rotate_left 1
        · intro w' ⟨hl1, hl2⟩
          go_simp
          all_goals with_reducible rfl
        simp only [Act.put, List.setIfInBounds_toArray, List.set_cons_zero, List.set_cons_succ]
        refine wpAnyT_take (i := 10) (oi := _) (v := ?_) (by rfl) (by kernel_rfl) (by intro _ _ _ h; exact h) hS (Or.inl ⟨by rfl, ?_⟩) ?_
        rotate_left 1
        · intro w' ⟨hl1, hl2⟩
          go_simp
          all_goals with_reducible rfl
        simp only [Act.put, List.setIfInBounds_toArray, List.set_cons_zero, List.set_cons_succ]
        refine wpAnyT_take (i := 5) (oi := _) (v := ?_) (by rfl) (by kernel_rfl) (by intro _ _ _ h; exact h) hS (Or.inl ⟨by rfl, ?_⟩) ?_
        rotate_left 1
        · intro w' ⟨hl1, hl2⟩
          go_simp
          all_goals with_reducible rfl
        simp only [Act.put, List.setIfInBounds_toArray, List.set_cons_zero, List.set_cons_succ]
        refine wpAnyT_take (i := 8) (oi := _) (v := ?_) (by rfl) (by kernel_rfl) (by intro _ _ _ h; exact h) hS (Or.inl ⟨by rfl, ?_⟩) ?_
        rotate_left 1
        · intro w' ⟨hl1, hl2⟩
          go_simp
          all_goals with_reducible rfl
        simp only [Act.put, List.setIfInBounds_toArray, List.set_cons_zero, List.set_cons_succ]
        refine wpAnyT_take (i := 11) (oi := _) (v := ?_) (by rfl) (by kernel_rfl) (by intro _ _ _ h; exact h) hS (Or.inl ⟨by rfl, ?_⟩) ?_
        rotate_left 1
        · intro w' ⟨hl1, hl2⟩
          go_simp
          all_goals with_reducible rfl
        simp only [Act.put, List.setIfInBounds_toArray, List.set_cons_zero, List.set_cons_succ]
        refine wpAnyT_all (rs := [6]) (by kernel_rfl) (by simp) ?_
        intro ix hix
        simp only [List.mem_cons, List.not_mem_nil, or_false] at hix
        subst hix
        refine wpT_op (o := _) (by rfl) (fun K hK => ?_)
        go_simp
        go_at_call 10
        refine (within_any _ 0 1023 (by omega) (by omega) (by omega) _).mono ?_
        rintro e w9 ⟨rfl, rfl⟩
        refine hK _ _ (fun _ => hS) ?_
        clear hK K
        try simp only [Act.put, List.setIfInBounds_toArray, List.set_cons_zero, List.set_cons_succ]
        obtain ⟨s9, hs9⟩ : ∃ s9, s9 = 0 + withinV (IntKind.i64.wrap (fr + (b : Int))) (1023 - 0 + 1) := ⟨_, rfl⟩
        rw [← hs9]
        have HS9 : Hid (0 ≤ s9 ∧ s9 < 1024) := Lib.hid (by have := withinV_in (IntKind.i64.wrap (fr + (b : Int))) (1023 - 0 + 1) (by omega); rw [hs9]; omega)
        clear hs9
        refine wpAnyT_all (rs := [12]) (by kernel_rfl) (by simp) ?_
        intro ix hix
        simp only [List.mem_cons, List.not_mem_nil, or_false] at hix
        subst hix
        refine wpT_op (o := _) (by rfl) (fun K hK => ?_)
        go_simp
        go_at_call 17
        refine (ref_any s9 (b1 : Int) _ HS9.out.1 HS9.out.2 (by have := HB1.out; omega) (by have := HB1.out; omega) _).mono ?_
        rintro e w9 ⟨rfl, hw9⟩
        rw [hw9]
        clear hw9
        obtain ⟨kv, hkv⟩ : ∃ kv, kv = refV s9 (b1 : Int) ((b : Int).tmod 3 == 0) := ⟨_, rfl⟩
        rw [← hkv]
        have HKV := Lib.hid hkv
        clear hkv
        refine hK _ _ (fun _ => hS) ?_
        clear hK K
        try simp only [Act.put, List.setIfInBounds_toArray, List.set_cons_zero, List.set_cons_succ]
        refine wpAnyT_all (rs := [13]) (by kernel_rfl) (by simp) ?_
        intro ix hix
        simp only [List.mem_cons, List.not_mem_nil, or_false] at hix
        subst hix
        refine wpT_op (o := _) (by rfl) (fun K hK => ?_)
        go_simp
        have HMB := Lib.hid (HX4.out.keep (((Below.refl w4.heap.size w4).alloc (Nat.le_refl _) (.cells #[.int .i64 kv] 3)).drew))
        have hS5 : (fun w' => w'.cell? ⟨w.heap.size + 1 + 1, 4, none⟩ = some (.slice D' m d') ∧ w'.cell? ⟨w.heap.size, 4, none⟩ = some (.int .i64 fr)) (w4.alloc (.cells #[.int .i64 kv] 3)).drew := ⟨cell_of HMB.out.box 4, cell_of HMB.out.kbox 4⟩
        refine hK _ _ (fun _ => hS5) ?_
        clear hK K
        try simp only [Act.put, List.setIfInBounds_toArray, List.set_cons_zero, List.set_cons_succ]
        refine wpAnyT_all (rs := [14]) (by kernel_rfl) (by simp) ?_
        intro ix hix
        simp only [List.mem_cons, List.not_mem_nil, or_false] at hix
        subst hix
        refine wpT_op (o := _) (by rfl) (fun K hK => ?_)
        refine step_append_mid (by rfl) _ _ _ (by rfl) w.heap.size 3 ii _ 1 8 Try.underlying26 ji jz0 jz1 jz2 rfl (by omega) (.slice D' m d') m _ (by rfl) HMB.out.y ⟨w4.heap.size, 0, none⟩ 1 1 [.int .i64 kv] (by rfl) (by rfl) (World.news_of_block (cs := #[.int .i64 kv]) (t := 3) (fr := (0, 0)) (heap_alloc_new w4 _)) (by simp [Value.oneCell']) (by unfold maxLen; omega) (by omega) HMB.out.bel.size ?_
        intro v5 w5 hm5 hr5
        obtain ⟨G5, g5, rfl⟩ := hm5.form
        have hy := HMB.out.app_y (ks' := ks ++ [kv]) hr5 (by rw [List.map_append]; exact hm5)
        have hS6 : (fun w' => w'.cell? ⟨w.heap.size + 1 + 1, 4, none⟩ = some (.slice D' m d') ∧ w'.cell? ⟨w.heap.size, 4, none⟩ = some (.int .i64 fr)) w5 := ⟨cell_of hy.1 4, cell_of (hy.2.1.trans HMB.out.kbox) 4⟩
        have q4 := cell_of hy.1 4
        have g4 := frozen_of hy.1 4
        have HY := Lib.hid hy.2.2
        refine hK _ _ (fun _ => hS6) ?_
        clear hm5 hr5 hy
        clear hK K
        try simp only [Act.put, List.setIfInBounds_toArray, List.set_cons_zero, List.set_cons_succ]
        refine wpAnyT_all (rs := [15]) (by kernel_rfl) (by simp) ?_
        intro ix hix
        simp only [List.mem_cons, List.not_mem_nil, or_false] at hix
        subst hix
        refine wpT_op (o := _) (by rfl) (fun K hK => ?_)
        go_simp
        refine hK _ _ (fun _ => hS6) ?_
        clear hK K
        try simp only [Act.put, List.setIfInBounds_toArray, List.set_cons_zero, List.set_cons_succ]
        refine wpAnyT_all (rs := [16]) (by kernel_rfl) (by simp) ?_
        intro ix hix
        simp only [List.mem_cons, List.not_mem_nil, or_false] at hix
        subst hix
        refine wpT_op (o := _) (by rfl) (fun K hK => ?_)
        go_simp
        refine hK _ _ (fun h => absurd h (by omega)) ?_
        clear hK K
        try simp only [Act.put, List.setIfInBounds_toArray, List.set_cons_zero, List.set_cons_succ]
        refine wpAnyT_done (by kernel_rfl) ?_ _
        clear hS hS5 hS6 q4 g4 h4 hk4
        go_wp2
        go_roundw
        case rel => exact ⟨b + 1, m + 1, G, g, G5, g5, zs ++ [(b : Int)], ks ++ [kv], by go_num, by omega, by omega, Lib.hid ⟨HY.out, pw_snoc HPW.out (fun z hz => (HZS.out z hz).2), fun z hz => by
          rcases List.mem_append.1 hz with hz | hz
          · have := HZS.out z hz; omega
          · simp at hz; omega, by rw [HKV.out]; exact refs_snoc HKS.out HS9.out.1 HS9.out.2 (by have := HB1.out; omega) (by have := HB1.out; omega)⟩⟩
        case measure => simp only [intOf]; omega
    · obtain rfl : b = 256 := by omega
      have HE : Hid (∀ wq : World, wq = wr → Me w 0 wd pf' D d D' d' m zs ks wq) := Lib.hid (fun wq e => by subst e; exact ⟨HM.out.bel, HM.out.rbox, HM.out.box, HM.out.x, HM.out.y⟩)
      have k0 := cell_of HM.out.kbox 0
      have n0 := cell_of HM.out.box 0
      have f0 := frozen_of HM.out.box 0
      obtain ⟨k4, hk4, hk49⟩ := withinV_nat kk 4 (by omega)
      have HQ : Hid (0 + withinV kk (3 - 0 + 1) = (k4 : Int)) := Lib.hid (by rw [← hk4]; show 0 + withinV kk (3 - 0 + 1) = withinV kk ((4 : Nat) : Int); rw [show ((3 : Int) - 0 + 1) = ((4 : Nat) : Int) from by omega]; omega)
      have HWD2 := Lib.hid (notThree ww HWX.out.1 HWX.out.2)
      clear hk4 hlt hb
      go_wp2_with (first
        | (go_at_call 10; refine (within_any _ 0 3 (by omega) (by omega) (by omega) _).mono ?_; rintro e w' ⟨rfl, rfl⟩; rw [HQ.out])
        | fail)
      obtain ⟨kd1, hkd1⟩ : ∃ kd1, kd1 = k4 + 1 := ⟨_, rfl⟩
      have e1 : 1 + (k4 : Int) = (kd1 : Int) := by omega
      rw [e1]
      have HM1 := Lib.hid ((HE.out _ rfl).kind (kd1 : Int))
      generalize wr.setCell ⟨w.heap.size + 1 + 1, 0, none⟩ (.int .i64 (kd1 : Int)) = wk at *
      clear HE k0 n0 f0 HM
      go_loopw [73] (fun _ wr => ∃ kd : Nat, 1 ≤ kd ∧ kd ≤ 4 ∧ Hid (Me w (kd : Int) wd pf' D d D' d' m zs ks wr)) (fun _ wq => 4 - kindOf w wq)
      case atStart => exact ⟨kd1, by omega, by omega, HM1⟩
      case round =>
        obtain ⟨kd, hkd0, hkd4, H⟩ := hrel
        have HKO := Lib.hid H.out.kindOf_
        have n0 := cell_of H.out.box 0
        have n3 := cell_of H.out.box 3
        have f0 := frozen_of H.out.box 0
        by_cases hk : kd < 4 ∧ highV (kd : Int) < (m : Int)
        · obtain ⟨hk1, hk2⟩ := hk
          have hk3 : (kd : Int) < 4 := by omega
          have HN := Lib.hid (fun q => (H.out.drewN q).kind ((kd : Int) + 1))
          go_wp2
          go_quiet ((go_at_call 26; exact Calls.quiet_of_same (high26_any _ _)))
          go_wp2
          go_roundw
          case rel => exact ⟨kd + 1, by omega, by omega, Lib.hid (by have := HN.out nq; rw [show ((kd + 1 : Nat) : Int) = (kd : Int) + 1 from by omega]; exact this)⟩
          case measure =>
            have h1 := (HN.out nq)
            have h2 : Me w ((kd + 1 : Nat) : Int) wd pf' D d D' d' m zs ks ((wr.drewN nq).setCell ⟨w.heap.size + 1 + 1, 0, none⟩ (.int .i64 ((kd : Int) + 1))) := by rw [show ((kd + 1 : Nat) : Int) = (kd : Int) + 1 from by omega]; exact h1
            have h3 := h2.kindOf_
            have h4 := HKO.out
            rw [h3, h4]
            omega
        · have HH : Hid ((m : Int) ≤ highV (kd : Int)) := Lib.hid (by
            rcases Nat.lt_or_ge kd 4 with q | q
            · have : ¬ highV (kd : Int) < (m : Int) := fun h => hk ⟨q, h⟩
              omega
            · obtain rfl : kd = 4 := by omega
              show (m : Int) ≤ 256
              omega)
          have HMQ := Lib.hid (fun q => H.out.drewN q)
          have HK0 : Hid (0 < highV (kd : Int)) := Lib.hid (by
            rcases (show kd = 1 ∨ kd = 2 ∨ kd = 3 ∨ kd = 4 by omega) with rfl | rfl | rfl | rfl <;> decide)
          obtain ⟨bg, hbg⟩ : ∃ bg, decide ((kd : Int) < 4) = bg := ⟨_, rfl⟩
          cases bg
          all_goals
            have hg2 : ¬ highV (kd : Int) < (m : Int) := by have := HH.out; omega
            clear hk
            go_wp2
            go_quiet ((go_at_call 26; exact Calls.quiet_of_same (high26_any _ _)))
            have HF := Lib.hid (HMQ.out nq)
            generalize wr.drewN nq = wz at *
            have x0 := cell_of HF.out.box 0
            have x1 := cell_of HF.out.box 1
            have x2 := cell_of HF.out.box 2
            have x3 := cell_of HF.out.box 3
            have x4 := cell_of HF.out.box 4
            have y0 := cell_of HF.out.rbox 0
            have y1 := cell_of HF.out.rbox 1
            have y2 := cell_of HF.out.rbox 2
            have y3 := cell_of HF.out.rbox 3
            have y4 := cell_of HF.out.rbox 4
            have v0 := frozen_of HF.out.rbox 0
            have v1 := frozen_of HF.out.rbox 1
            have v2 := frozen_of HF.out.rbox 2
            have v3 := frozen_of HF.out.rbox 3
            have v4 := frozen_of HF.out.rbox 4
            go_wp2
            have hb5 := put5_self (kd := (kd : Int)) (wd := wd) (pf := pf') (G := D) (g := d) (G' := D') (g' := d') (m := m) HF.out.rbox
            have hbl := put5_below (b := w.heap.size + 1) (kd := (kd : Int)) (wd := wd) (pf := pf') (G := D) (g := d) (G' := D') (g' := d') (m := m) HF.out.bel (Nat.le_succ _)
            have hmx : Mid (put5 wz (w.heap.size + 1) (kd : Int) wd pf' D d D' d' m) w.heap.size 5 1 (.slice D m d) m (zs.map (Value.int .u8)) := HF.out.x.same fun g hg => put5_far (HF.out.x.nobox HF.out.rbox (by decide) hg)
            have hmy : Mid (put5 wz (w.heap.size + 1) (kd : Int) wd pf' D d D' d' m) w.heap.size 3 1 (.slice D' m d') m (ks.map (Value.int .i64)) := HF.out.y.same fun g hg => put5_far (HF.out.y.nobox HF.out.rbox (by decide) hg)
            clear x0 x1 x2 x3 x4 y0 y1 y2 y3 y4 v0 v1 v2 v3 v4
            obtain ⟨w5, hw5⟩ : ∃ w5, put5 wz (w.heap.size + 1) (kd : Int) wd pf' D d D' d' m = w5 := ⟨_, rfl⟩
            rw [hw5] at hb5 hbl hmx hmy
            unfold put5 at hw5
            rw [hw5]
            have e0 : w5.cell? ⟨w.heap.size + 1, 0, none⟩ = some (.int .i64 (kd : Int)) := cell_of hb5 0
            have e1 : w5.cell? ⟨w.heap.size + 1, 1, none⟩ = some (.int .u64 wd) := cell_of hb5 1
            have e2 : w5.cell? ⟨w.heap.size + 1, 2, none⟩ = some (.string pf') := cell_of hb5 2
            have e3 : w5.cell? ⟨w.heap.size + 1, 3, none⟩ = some (.slice D m d) := cell_of hb5 3
            have e4 : w5.cell? ⟨w.heap.size + 1, 4, none⟩ = some (.slice D' m d') := cell_of hb5 4
            have hw2 := HWD2.out
            rw [← HWD.out] at hw2
            exact bodyPost_ret (v := nodeV (kd : Int) wd pf' D d D' d' m) (by simp [results, Try.results9, go_sem, e0, e1, e2, e3, e4, nodeV]) rfl
              ⟨_, (kd : Int), wd, pf', zs, ks, m, rfl, ⟨HH.out, HK0.out, hw2.1, HPF.out, pw_asc HPW.out, HKS.out⟩, by omega, HPW.out, fun z hz => by have := HZS.out z hz; omega, by omega, by omega, hw2.2.1, hw2.2.2, D, d, D', d', rfl, hmx, hmy, hbl⟩
end Go.Proofs.Ytononinmjijhoaa
