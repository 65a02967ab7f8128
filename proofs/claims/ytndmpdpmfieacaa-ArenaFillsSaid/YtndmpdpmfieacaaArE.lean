/-
  Rows of the law's own beside an arena; sameness of words; no condition.
-/
import Derived.Test.YtndmpdpmfieacaaArD
import Derived.LoopTactic
import Derived.Laws.CopyOwn
import Derived.Laws.Rows
namespace Go.Proofs.Ytndmpdpmfieacaa
open Go.RowKit Go.WideShapes Go.ChangeShapes
set_option linter.all false
def ks (κ : IntKind) (xs : List Int) : List Value := xs.map (.int κ)
theorem ks_len (κ : IntKind) (xs : List Int) : (ks κ xs).length = xs.length := by simp [ks]
theorem Reads.kl {κ : IntKind} {w : World} {B : Nat} {A : Option Addr} {n : Nat} {xs : List Int} (h : Reads w B 1 A n (ks κ xs)) : xs.length = n := by
  have := h.1; rw [ks_len] at this; omega
theorem Reads.kat {κ : IntKind} {w : World} {B : Nat} {A : Option Addr} {n k : Nat} {xs : List Int} (h : Reads w B 1 A n (ks κ xs)) (hk : k < n) :
    ∃ ad, A = some ad ∧ w.cell? (ad.add k) = some (.int κ (xs.getD k 0)) := by
  obtain ⟨ad, u, e, _, hu, hc⟩ := h.at_ hk
  refine ⟨ad, e, ?_⟩
  rw [hc]
  unfold ks at hu
  rw [List.getElem?_map] at hu
  have hl : k < xs.length := by rw [h.kl]; exact hk
  rw [List.getElem?_eq_getElem hl] at hu
  injection hu with hu
  rw [← hu, List.getD_eq_getElem?_getD, List.getElem?_eq_getElem hl]; rfl
theorem ks_get (κ : IntKind) (xs : List Int) (j : Nat) (h : j < xs.length) : (ks κ xs)[j]? = some (.int κ (xs.getD j 0)) := by
  unfold ks
  rw [List.getElem?_map, List.getElem?_eq_getElem h, List.getD_eq_getElem?_getD, List.getElem?_eq_getElem h]; rfl
theorem ks_one (κ : IntKind) (xs : List Int) : ∀ v ∈ ks κ xs, v.oneCell' = true := by
  intro v hv
  unfold ks at hv
  obtain ⟨x, _, rfl⟩ := List.mem_map.1 hv
  rfl
theorem ks_append (κ : IntKind) (a b : List Int) : ks κ (a ++ b) = ks κ a ++ ks κ b := List.map_append
theorem zeros_k (κ : IntKind) (n : Nat) : (madeCells (Value.int κ 0).cells (n * 1)).toList = ks κ (List.replicate n 0) := by
  rw [Nat.mul_one]
  unfold ks
  rw [List.map_replicate]
  exact toList_madeCells_one _ _
theorem cell_heap {w w' : World} (h : w'.heap = w.heap) (p : Addr) : w'.cell? p = w.cell? p := by unfold World.cell?; rw [h]
theorem take_same {xs ys : List Int} {k : Nat} (hx : k < xs.length) (hy : k < ys.length) (h : xs.take k = ys.take k) (he : xs.getD k 0 = ys.getD k 0) : xs.take (k + 1) = ys.take (k + 1) := by
  rw [List.take_add_one, List.take_add_one, h, List.getElem?_eq_getElem hx, List.getElem?_eq_getElem hy]
  rw [List.getD_eq_getElem?_getD, List.getD_eq_getElem?_getD, List.getElem?_eq_getElem hx, List.getElem?_eq_getElem hy] at he
  simp at he
  simp [he]
def eqB (xs ys : List Int) : Bool := decide (xs = ys)
theorem eqB_true {xs ys : List Int} (h : xs = ys) : Value.bool (eqB xs ys) = .bool true := by unfold eqB; rw [decide_eq_true h]
theorem eqB_false {xs ys : List Int} (h : xs ≠ ys) : Value.bool (eqB xs ys) = .bool false := by unfold eqB; rw [decide_eq_false h]
set_option maxHeartbeats 800000 in
theorem same_u (B : Nat) (A A' : Option Addr) (n m c c' : Nat) (xs ys : List Int) (w : World) (hx : Reads w B 1 A n (ks .u64 xs)) (hy : Reads w B 1 A' m (ks .u64 ys)) (hn : n ≤ 9223372036854775807) (hm : m ≤ 9223372036854775807) :
    Calls Try.prog 24 #[.slice A n c, .slice A' m c'] w fun e w' => e = .returned (.bool (eqB xs ys)) ∧ Below w.heap.size w w' := by
  have LX : Hid (xs.length = n) := hx.kl
  have LY : Hid (ys.length = m) := hy.kl
  by_cases hnm : n = m
  · subst hnm
    go_enter Try.func24, Try.ntmps24
    go_wp2
    go_loopw [5] (fun i wr => ∃ k : Nat, k ≤ n ∧ i = .int .i64 k ∧ xs.take k = ys.take k ∧ Below w.heap.size w wr ∧ wr.heap = w.heap) (fun i _ => n - (intOf i).toNat)
    case atStart => exact ⟨0, Nat.zero_le _, rfl, rfl, Below.refl _ _, rfl⟩
    case round =>
      obtain ⟨k, hk, rfl, htk, hbl, hhp⟩ := hrel
      have HH : Hid (wr.heap = w.heap) := hhp
      have HT : Hid (xs.take k = ys.take k) := htk
      clear hhp htk
      by_cases hlt : k < n
      · obtain ⟨ad, rfl, h1⟩ := hx.kat hlt
        obtain ⟨ad', rfl, h2⟩ := hy.kat hlt
        rw [← cell_heap HH.out] at h1 h2
        go_wp2
        go_region
        all_goals (try go_wp2)
        · have hne : (xs.getD k 0 != ys.getD k 0) = true := by assumption
          go_ret
          refine ⟨?_, hbl.drew⟩
          rw [eqB_false (fun e => by subst e; simp at hne)]; rfl
        · have hne : (xs.getD k 0 != ys.getD k 0) = false := by assumption
          go_roundw
          case rel => exact ⟨k + 1, by omega, by go_num, take_same (by rw [LX.out]; exact hlt) (by rw [LY.out]; exact hlt) HT.out (by simpa using hne), hbl.drew, HH.out⟩
          case measure => simp only [intOf]; omega
      · have hkn : k = n := by omega
        have hq := HT.out
        rw [List.take_of_length_le (by rw [LX.out]; omega), List.take_of_length_le (by rw [LY.out]; omega)] at hq
        clear hkn
        have HQ : Hid (xs = ys) := hq
        clear hq
        go_wp2
        go_ret
        exact ⟨by rw [eqB_true HQ.out]; rfl, hbl⟩
  · have hne : xs ≠ ys := by
      rintro rfl
      exact hnm (LX.out.symm.trans LY.out)
    have HN : Hid (xs ≠ ys) := hne
    clear hne
    go_enter Try.func24, Try.ntmps24
    go_wp2
    go_ret
    exact ⟨by rw [eqB_false HN.out]; rfl, Below.refl _ _⟩
theorem Mid.readsv {w : World} {N n c : Nat} {t : TypeId} {A : Option Addr} {xs : List Value} (h : Mid w N t 1 (.slice A n c) n xs) : Reads w w.heap.size 1 A n xs := by
  refine ⟨h.1, fun hn => ?_⟩
  rcases h.2 with ⟨h', h0⟩ | ⟨g, off, cap, cur, h', hb, hh, _⟩
  · omega
  · simp only [Value.slice.injEq, true_and] at h'
    obtain ⟨rfl, rfl⟩ := h'
    refine ⟨_, rfl, ?_, fun j u hu => ?_⟩
    · exact (h.lt g rfl).2
    · have e : (⟨g, off, none⟩ : Addr).add j = ⟨g, off + j, none⟩ := by unfold Addr.add; split <;> simp_all
      rw [e]; exact h.cells j u hu
theorem Mid.lower {w : World} {B B' n : Nat} {t : TypeId} {v : Value} {xs : List Value} (h : Mid w B t 1 v n xs) (hb : B' ≤ B) : Mid w B' t 1 v n xs := by
  refine ⟨h.1, ?_⟩
  rcases h.2 with q | ⟨g, off, cap, cur, h1, h2, h3⟩
  · exact .inl q
  · exact .inr ⟨g, off, cap, cur, h1, by omega, h3⟩
theorem Mid.onb {w w' : World} {N n : Nat} {t : TypeId} {v : Value} {xs : List Value} (h : Mid w N t 1 v n xs) (hb : Below w.heap.size w w') : Mid w' N t 1 v n xs := h.same fun g hg => hb.block g (h.lt g hg).2
theorem Mid.alloc_ {w : World} {N n : Nat} {t : TypeId} {v : Value} {xs : List Value} (h : Mid w N t 1 v n xs) (o : Obj) : Mid (w.alloc o) N t 1 v n xs := h.onb (below_alloc w o)
theorem Mid.on_apart {w w' : World} {N n : Nat} {t : TypeId} {v V V' : Value} {xs : List Value} (h : Mid w N t 1 v n xs) (hne : ∀ g, v.ownBlock = some g → V.ownBlock ≠ some g) (hr : Ran V V' w w') : Mid w' N t 1 v n xs :=
  h.same fun g hg => hr.grown.block g (h.lt g hg).2 (fun e => hne g hg e.symm)
theorem ext_set (cur : List Value) (off n k : Nat) (u : Value) (hk : k < n) (hs : off + n ≤ cur.length) : ((cur.set (off + k) u).drop off).take n = ((cur.drop off).take n).set k u := by
  apply List.ext_getElem?
  intro i
  rw [List.getElem?_take, List.getElem?_drop, List.getElem?_set, List.getElem?_set, List.getElem?_take, List.getElem?_drop]
  by_cases hi : i < n
  · rw [if_pos hi, if_pos hi]
    by_cases hik : k = i
    · subst hik
      rw [if_pos rfl, if_pos rfl, if_pos (by omega), if_pos (by rw [List.length_take, List.length_drop]; omega)]
    · rw [if_neg (by omega), if_neg hik]
  · rw [if_neg hi, if_neg hi, if_neg (by omega)]
theorem Mid.put {w : World} {N n c k : Nat} {t : TypeId} {A : Option Addr} {xs : List Value} (h : Mid w N t 1 (.slice A n c) n xs) (hk : k < n) (u : Value) :
    ∃ ad v, A = some ad ∧ w.cell? (ad.add k) = some v ∧ w.frozen? (ad.add k) = false ∧ Mid (w.setCell (ad.add k) u) N t 1 (.slice A n c) n (xs.set k u) ∧ N ≤ ad.block ∧ ad.block < w.heap.size ∧ (ad.add k).block = ad.block ∧ (Value.slice A n c).ownBlock = some ad.block := by
  rcases h.2 with ⟨h', h0⟩ | ⟨g, off, cap, cur, h', hg, hh, h1, h2, h3, h4⟩
  · omega
  · injection h' with h5 h6 h7
    subst h5 h7
    have hl := h.1
    rw [Nat.mul_one] at hl h3 h4
    have hz : cur.toList.length = cur.size := Array.length_toList
    have hlt : g < w.heap.size := by
      rcases Nat.lt_or_ge g w.heap.size with q | q
      · exact q
      · rw [Array.getElem?_eq_none q] at hh; cases hh
    have ea : (⟨g, off, none⟩ : Addr).add k = ⟨g, off + k, none⟩ := Addr.add_lit _ _ _
    have hc : w.cell? ⟨g, off + k, none⟩ = cur[off + k]? := cell_of hh _
    refine ⟨⟨g, off, none⟩, cur[off + k]'(by omega), rfl, by rw [ea, hc, Array.getElem?_eq_getElem], by rw [ea]; exact frozen_of hh _, ?_, hg, hlt, by rw [ea], rfl⟩
    rw [ea]
    refine ⟨by rw [List.length_set, hl]; omega, .inr ⟨g, off, c, cur.setIfInBounds (off + k) u, rfl, hg, heap_setCell_same w g (off + k) cur t u hh, h1, h2, by rw [Array.size_setIfInBounds, Nat.mul_one]; exact h3, ?_⟩⟩
    rw [Nat.mul_one, Array.toList_setIfInBounds, ext_set cur.toList off n k u hk (by omega), h4]
theorem Mid.far_set {w : World} {N n : Nat} {t : TypeId} {v : Value} {xs : List Value} (h : Mid w N t 1 v n xs) {a : Addr} (hne : ∀ g, v.ownBlock = some g → g ≠ a.block) (u : Value) : Mid (w.setCell a u) N t 1 v n xs :=
  h.same fun g hg => heap_setCell_other w a g u (hne g hg)
theorem Mid.caps {w : World} {N n c size : Nat} {t : TypeId} {A : Option Addr} {xs : List Value} (h : Mid w N t size (.slice A n c) n xs) : n ≤ c ∧ c ≤ maxLen := by
  rcases h.2 with ⟨h', h0⟩ | ⟨g, off, cap, cur, h', hb, hh, h1, h2, _⟩
  · injection h' with h1 h2 h3; subst h3; exact ⟨by omega, Nat.zero_le _⟩
  · injection h' with h3 h4 h5; subst h5; exact ⟨h1, h2⟩
theorem Ran.refl (v : Value) (w : World) : Ran v v w w := ⟨World.grownBy.refl w _, .inl rfl⟩
theorem Ran.trans {v v1 v2 : Value} {w w1 w2 : World} (h : Ran v v1 w w1) (k : Ran v1 v2 w1 w2) : Ran v v2 w w2 := by
  refine ⟨⟨k.grown.os.trans h.grown.os, k.grown.tape.trans h.grown.tape, k.grown.output.trans h.grown.output, Nat.le_trans h.grown.size k.grown.size, fun b hb hne => ?_⟩, ?_⟩
  · refine (k.grown.block b (Nat.lt_of_lt_of_le hb h.grown.size) (fun e => ?_)).trans (h.grown.block b hb hne)
    rcases h.at_ with a | a
    · rw [a] at e; exact hne e
    · have := a b e.symm; omega
  · rcases k.at_ with a | a
    · rcases h.at_ with b | b
      · exact .inl (a.trans b)
      · exact .inr fun g hg => b g (by rw [← a]; exact hg)
    · exact .inr fun g hg => Nat.le_trans h.grown.size (a g hg)
theorem Ran.alloc {v v1 : Value} {w w1 : World} {o : Obj} (h : Ran v v1 (w.alloc o) w1) : Ran v v1 w w1 :=
  ⟨⟨h.grown.os, h.grown.tape, h.grown.output, by have := h.grown.size; simp at this; omega, fun b hb hne => (h.grown.block b (by simp; omega) hne).trans (Below.heap_alloc w o b hb)⟩, h.at_.imp id fun k g hg => by have := k g hg; simp at this; omega⟩
theorem Ran.drew {v v1 : Value} {w w1 : World} (h : Ran v v1 w.drew w1) : Ran v v1 w w1 := ⟨⟨h.grown.os, h.grown.tape, h.grown.output, h.grown.size, h.grown.block⟩, h.at_⟩
section
variable {P : Program} {w : World} {size n : Nat} {xs : List Value}
theorem wpList_append_mid {ops : Array Oper} {rest : List Oper} {o : Oper} {a : Act} {Q : Exit → Act → World → Prop} (hg : o.guard = none) (s x : Operand) (t : TypeId)
    (ho : o.op = .call { callee := .builtin .append, args := #[s, x], argTypes := #[t, t] })
    (base : Nat) (e : TypeId) (i : TypeInfo) (z : Value) (size bytes : Nat) (ht : P.underlying t = some (.slice e)) (hi : P.info? e = some i) (hz : i.zero = some z)
    (hsize : i.size = size) (hby : i.bytes = bytes) (hzs : z.cells.size = size) (hsz : 0 < size) (v : Value) (n : Nat) (xs : List Value) (hs : a.eval s = v) (h : Mid w base e size v n xs)
    (ad : Addr) (m c : Nat) (news : List Value) (hx : a.eval x = .slice (some ad) m c) (hl : news.length = m * size) (hnews : ∀ j u, news[j]? = some u → w.cell? (ad.add j) = some u) (h1 : ∀ u ∈ news, u.oneCell' = true)
    (h63 : n + m ≤ maxLen) (hbytes : (n + m) * bytes ≤ 140737488355328) (hbase : base ≤ w.heap.size)
    (hK : ∀ v' w', Mid w' base e size v' (n + m) (xs ++ news) → Ran v v' w w' → wpList P ops Q rest (a.put o.dst v') w') : wpList P ops Q (o :: rest) a w :=
  wpList_plain hg fun K hK' => wp_append_mid s x t ho base e i z size bytes ht hi hz hsize hby hzs hsz v n xs hs h ad m c news hx hl hnews h1 h63 hbytes hbase (fun v' w' q1 q2 => hK' _ _ (hK v' w' q1 q2))
end

end Go.Proofs.Ytndmpdpmfieacaa
