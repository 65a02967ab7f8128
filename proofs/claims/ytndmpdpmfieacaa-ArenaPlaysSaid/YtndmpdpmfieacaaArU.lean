/-
  Rows of the law's own beside an arena; sameness of words; no condition.
  Slots and pools that agree; rows of the law's own that the arena keeps out of; no condition.
  ArenaLeast at any order; conditions: lengths.
-/
import Derived.Test.YtndmpdpmfieacaaArD
import Derived.LoopTactic
import Derived.Laws.CopyOwn
import Derived.Laws.Rows
namespace Go.Proofs.Ytndmpdpmfieacaa
open Go.RowKit Go.WideShapes Go.ChangeShapes
set_option linter.all false
def ks (κ : IntKind) (xs : List Int) : List Value := xs.map (.int κ)
theorem ks_len (κ : IntKind) (xs : List Int) : (ks κ xs).length = xs.length := by simp [ks]
theorem Reads.kl {κ : IntKind} {w : World} {B : Nat} {A : Option Addr} {n : Nat} {xs : List Int} (h : Reads w B 1 A n (ks κ xs)) : xs.length = n := by
  have := h.1; rw [ks_len] at this; omega
theorem Reads.kat {κ : IntKind} {w : World} {B : Nat} {A : Option Addr} {n k : Nat} {xs : List Int} (h : Reads w B 1 A n (ks κ xs)) (hk : k < n) :
    ∃ ad, A = some ad ∧ w.cell? (ad.add k) = some (.int κ (xs.getD k 0)) := by
  obtain ⟨ad, u, e, _, hu, hc⟩ := h.at_ hk
  refine ⟨ad, e, ?_⟩
  rw [hc]
  unfold ks at hu
  rw [List.getElem?_map] at hu
  have hl : k < xs.length := by rw [h.kl]; exact hk
  rw [List.getElem?_eq_getElem hl] at hu
  injection hu with hu
  rw [← hu, List.getD_eq_getElem?_getD, List.getElem?_eq_getElem hl]; rfl
theorem ks_get (κ : IntKind) (xs : List Int) (j : Nat) (h : j < xs.length) : (ks κ xs)[j]? = some (.int κ (xs.getD j 0)) := by
  unfold ks
  rw [List.getElem?_map, List.getElem?_eq_getElem h, List.getD_eq_getElem?_getD, List.getElem?_eq_getElem h]; rfl
theorem ks_one (κ : IntKind) (xs : List Int) : ∀ v ∈ ks κ xs, v.oneCell' = true := by
  intro v hv
  unfold ks at hv
  obtain ⟨x, _, rfl⟩ := List.mem_map.1 hv
  rfl
theorem ks_append (κ : IntKind) (a b : List Int) : ks κ (a ++ b) = ks κ a ++ ks κ b := List.map_append
theorem zeros_k (κ : IntKind) (n : Nat) : (madeCells (Value.int κ 0).cells (n * 1)).toList = ks κ (List.replicate n 0) := by
  rw [Nat.mul_one]
  unfold ks
  rw [List.map_replicate]
  exact toList_madeCells_one _ _
theorem cell_heap {w w' : World} (h : w'.heap = w.heap) (p : Addr) : w'.cell? p = w.cell? p := by unfold World.cell?; rw [h]
theorem take_same {xs ys : List Int} {k : Nat} (hx : k < xs.length) (hy : k < ys.length) (h : xs.take k = ys.take k) (he : xs.getD k 0 = ys.getD k 0) : xs.take (k + 1) = ys.take (k + 1) := by
  rw [List.take_add_one, List.take_add_one, h, List.getElem?_eq_getElem hx, List.getElem?_eq_getElem hy]
  rw [List.getD_eq_getElem?_getD, List.getD_eq_getElem?_getD, List.getElem?_eq_getElem hx, List.getElem?_eq_getElem hy] at he
  simp at he
  simp [he]
def eqB (xs ys : List Int) : Bool := decide (xs = ys)
theorem eqB_true {xs ys : List Int} (h : xs = ys) : Value.bool (eqB xs ys) = .bool true := by unfold eqB; rw [decide_eq_true h]
theorem eqB_false {xs ys : List Int} (h : xs ≠ ys) : Value.bool (eqB xs ys) = .bool false := by unfold eqB; rw [decide_eq_false h]
set_option maxHeartbeats 800000 in
theorem same_u (B : Nat) (A A' : Option Addr) (n m c c' : Nat) (xs ys : List Int) (w : World) (hx : Reads w B 1 A n (ks .u64 xs)) (hy : Reads w B 1 A' m (ks .u64 ys)) (hn : n ≤ 9223372036854775807) (hm : m ≤ 9223372036854775807) :
    Calls Try.prog 24 #[.slice A n c, .slice A' m c'] w fun e w' => e = .returned (.bool (eqB xs ys)) ∧ Below w.heap.size w w' := by
  have LX : Hid (xs.length = n) := hx.kl
  have LY : Hid (ys.length = m) := hy.kl
  by_cases hnm : n = m
  · subst hnm
    go_enter Try.func24, Try.ntmps24
    go_wp2
    go_loopw [5] (fun i wr => ∃ k : Nat, k ≤ n ∧ i = .int .i64 k ∧ xs.take k = ys.take k ∧ Below w.heap.size w wr ∧ wr.heap = w.heap) (fun i _ => n - (intOf i).toNat)
    case atStart => exact ⟨0, Nat.zero_le _, rfl, rfl, Below.refl _ _, rfl⟩
    case round =>
      obtain ⟨k, hk, rfl, htk, hbl, hhp⟩ := hrel
      have HH : Hid (wr.heap = w.heap) := hhp
      have HT : Hid (xs.take k = ys.take k) := htk
      clear hhp htk
      by_cases hlt : k < n
      · obtain ⟨ad, rfl, h1⟩ := hx.kat hlt
        obtain ⟨ad', rfl, h2⟩ := hy.kat hlt
        rw [← cell_heap HH.out] at h1 h2
        go_wp2
        go_region
        all_goals (try go_wp2)
        · have hne : (xs.getD k 0 != ys.getD k 0) = true := by assumption
          go_ret
          refine ⟨?_, hbl.drew⟩
          rw [eqB_false (fun e => by subst e; simp at hne)]; rfl
        · have hne : (xs.getD k 0 != ys.getD k 0) = false := by assumption
          go_roundw
          case rel => exact ⟨k + 1, by omega, by go_num, take_same (by rw [LX.out]; exact hlt) (by rw [LY.out]; exact hlt) HT.out (by simpa using hne), hbl.drew, HH.out⟩
          case measure => simp only [intOf]; omega
      · have hkn : k = n := by omega
        have hq := HT.out
        rw [List.take_of_length_le (by rw [LX.out]; omega), List.take_of_length_le (by rw [LY.out]; omega)] at hq
        clear hkn
        have HQ : Hid (xs = ys) := hq
        clear hq
        go_wp2
        go_ret
        exact ⟨by rw [eqB_true HQ.out]; rfl, hbl⟩
  · have hne : xs ≠ ys := by
      rintro rfl
      exact hnm (LX.out.symm.trans LY.out)
    have HN : Hid (xs ≠ ys) := hne
    clear hne
    go_enter Try.func24, Try.ntmps24
    go_wp2
    go_ret
    exact ⟨by rw [eqB_false HN.out]; rfl, Below.refl _ _⟩
theorem Mid.readsv {w : World} {N n c : Nat} {t : TypeId} {A : Option Addr} {xs : List Value} (h : Mid w N t 1 (.slice A n c) n xs) : Reads w w.heap.size 1 A n xs := by
  refine ⟨h.1, fun hn => ?_⟩
  rcases h.2 with ⟨h', h0⟩ | ⟨g, off, cap, cur, h', hb, hh, _⟩
  · omega
  · simp only [Value.slice.injEq, true_and] at h'
    obtain ⟨rfl, rfl⟩ := h'
    refine ⟨_, rfl, ?_, fun j u hu => ?_⟩
    · exact (h.lt g rfl).2
    · have e : (⟨g, off, none⟩ : Addr).add j = ⟨g, off + j, none⟩ := by unfold Addr.add; split <;> simp_all
      rw [e]; exact h.cells j u hu
theorem Mid.lower {w : World} {B B' n : Nat} {t : TypeId} {v : Value} {xs : List Value} (h : Mid w B t 1 v n xs) (hb : B' ≤ B) : Mid w B' t 1 v n xs := by
  refine ⟨h.1, ?_⟩
  rcases h.2 with q | ⟨g, off, cap, cur, h1, h2, h3⟩
  · exact .inl q
  · exact .inr ⟨g, off, cap, cur, h1, by omega, h3⟩
theorem Mid.onb {w w' : World} {N n : Nat} {t : TypeId} {v : Value} {xs : List Value} (h : Mid w N t 1 v n xs) (hb : Below w.heap.size w w') : Mid w' N t 1 v n xs := h.same fun g hg => hb.block g (h.lt g hg).2
theorem Mid.alloc_ {w : World} {N n : Nat} {t : TypeId} {v : Value} {xs : List Value} (h : Mid w N t 1 v n xs) (o : Obj) : Mid (w.alloc o) N t 1 v n xs := h.onb (below_alloc w o)
theorem Mid.on_apart {w w' : World} {N n : Nat} {t : TypeId} {v V V' : Value} {xs : List Value} (h : Mid w N t 1 v n xs) (hne : ∀ g, v.ownBlock = some g → V.ownBlock ≠ some g) (hr : Ran V V' w w') : Mid w' N t 1 v n xs :=
  h.same fun g hg => hr.grown.block g (h.lt g hg).2 (fun e => hne g hg e.symm)
theorem ext_set (cur : List Value) (off n k : Nat) (u : Value) (hk : k < n) (hs : off + n ≤ cur.length) : ((cur.set (off + k) u).drop off).take n = ((cur.drop off).take n).set k u := by
  apply List.ext_getElem?
  intro i
  rw [List.getElem?_take, List.getElem?_drop, List.getElem?_set, List.getElem?_set, List.getElem?_take, List.getElem?_drop]
  by_cases hi : i < n
  · rw [if_pos hi, if_pos hi]
    by_cases hik : k = i
    · subst hik
      rw [if_pos rfl, if_pos rfl, if_pos (by omega), if_pos (by rw [List.length_take, List.length_drop]; omega)]
    · rw [if_neg (by omega), if_neg hik]
  · rw [if_neg hi, if_neg hi, if_neg (by omega)]
theorem Mid.put {w : World} {N n c k : Nat} {t : TypeId} {A : Option Addr} {xs : List Value} (h : Mid w N t 1 (.slice A n c) n xs) (hk : k < n) (u : Value) :
    ∃ ad v, A = some ad ∧ w.cell? (ad.add k) = some v ∧ w.frozen? (ad.add k) = false ∧ Mid (w.setCell (ad.add k) u) N t 1 (.slice A n c) n (xs.set k u) ∧ N ≤ ad.block ∧ ad.block < w.heap.size ∧ (ad.add k).block = ad.block ∧ (Value.slice A n c).ownBlock = some ad.block := by
  rcases h.2 with ⟨h', h0⟩ | ⟨g, off, cap, cur, h', hg, hh, h1, h2, h3, h4⟩
  · omega
  · injection h' with h5 h6 h7
    subst h5 h7
    have hl := h.1
    rw [Nat.mul_one] at hl h3 h4
    have hz : cur.toList.length = cur.size := Array.length_toList
    have hlt : g < w.heap.size := by
      rcases Nat.lt_or_ge g w.heap.size with q | q
      · exact q
      · rw [Array.getElem?_eq_none q] at hh; cases hh
    have ea : (⟨g, off, none⟩ : Addr).add k = ⟨g, off + k, none⟩ := Addr.add_lit _ _ _
    have hc : w.cell? ⟨g, off + k, none⟩ = cur[off + k]? := cell_of hh _
    refine ⟨⟨g, off, none⟩, cur[off + k]'(by omega), rfl, by rw [ea, hc, Array.getElem?_eq_getElem], by rw [ea]; exact frozen_of hh _, ?_, hg, hlt, by rw [ea], rfl⟩
    rw [ea]
    refine ⟨by rw [List.length_set, hl]; omega, .inr ⟨g, off, c, cur.setIfInBounds (off + k) u, rfl, hg, heap_setCell_same w g (off + k) cur t u hh, h1, h2, by rw [Array.size_setIfInBounds, Nat.mul_one]; exact h3, ?_⟩⟩
    rw [Nat.mul_one, Array.toList_setIfInBounds, ext_set cur.toList off n k u hk (by omega), h4]
theorem Mid.far_set {w : World} {N n : Nat} {t : TypeId} {v : Value} {xs : List Value} (h : Mid w N t 1 v n xs) {a : Addr} (hne : ∀ g, v.ownBlock = some g → g ≠ a.block) (u : Value) : Mid (w.setCell a u) N t 1 v n xs :=
  h.same fun g hg => heap_setCell_other w a g u (hne g hg)
theorem Mid.caps {w : World} {N n c size : Nat} {t : TypeId} {A : Option Addr} {xs : List Value} (h : Mid w N t size (.slice A n c) n xs) : n ≤ c ∧ c ≤ maxLen := by
  rcases h.2 with ⟨h', h0⟩ | ⟨g, off, cap, cur, h', hb, hh, h1, h2, _⟩
  · injection h' with h1 h2 h3; subst h3; exact ⟨by omega, Nat.zero_le _⟩
  · injection h' with h3 h4 h5; subst h5; exact ⟨h1, h2⟩
theorem Ran.refl (v : Value) (w : World) : Ran v v w w := ⟨World.grownBy.refl w _, .inl rfl⟩
theorem Ran.trans {v v1 v2 : Value} {w w1 w2 : World} (h : Ran v v1 w w1) (k : Ran v1 v2 w1 w2) : Ran v v2 w w2 := by
  refine ⟨⟨k.grown.os.trans h.grown.os, k.grown.tape.trans h.grown.tape, k.grown.output.trans h.grown.output, Nat.le_trans h.grown.size k.grown.size, fun b hb hne => ?_⟩, ?_⟩
  · refine (k.grown.block b (Nat.lt_of_lt_of_le hb h.grown.size) (fun e => ?_)).trans (h.grown.block b hb hne)
    rcases h.at_ with a | a
    · rw [a] at e; exact hne e
    · have := a b e.symm; omega
  · rcases k.at_ with a | a
    · rcases h.at_ with b | b
      · exact .inl (a.trans b)
      · exact .inr fun g hg => b g (by rw [← a]; exact hg)
    · exact .inr fun g hg => Nat.le_trans h.grown.size (a g hg)
theorem Ran.alloc {v v1 : Value} {w w1 : World} {o : Obj} (h : Ran v v1 (w.alloc o) w1) : Ran v v1 w w1 :=
  ⟨⟨h.grown.os, h.grown.tape, h.grown.output, by have := h.grown.size; simp at this; omega, fun b hb hne => (h.grown.block b (by simp; omega) hne).trans (Below.heap_alloc w o b hb)⟩, h.at_.imp id fun k g hg => by have := k g hg; simp at this; omega⟩
theorem Ran.drew {v v1 : Value} {w w1 : World} (h : Ran v v1 w.drew w1) : Ran v v1 w w1 := ⟨⟨h.grown.os, h.grown.tape, h.grown.output, h.grown.size, h.grown.block⟩, h.at_⟩
section
variable {P : Program} {w : World} {size n : Nat} {xs : List Value}
theorem wpList_append_mid {ops : Array Oper} {rest : List Oper} {o : Oper} {a : Act} {Q : Exit → Act → World → Prop} (hg : o.guard = none) (s x : Operand) (t : TypeId)
    (ho : o.op = .call { callee := .builtin .append, args := #[s, x], argTypes := #[t, t] })
    (base : Nat) (e : TypeId) (i : TypeInfo) (z : Value) (size bytes : Nat) (ht : P.underlying t = some (.slice e)) (hi : P.info? e = some i) (hz : i.zero = some z)
    (hsize : i.size = size) (hby : i.bytes = bytes) (hzs : z.cells.size = size) (hsz : 0 < size) (v : Value) (n : Nat) (xs : List Value) (hs : a.eval s = v) (h : Mid w base e size v n xs)
    (ad : Addr) (m c : Nat) (news : List Value) (hx : a.eval x = .slice (some ad) m c) (hl : news.length = m * size) (hnews : ∀ j u, news[j]? = some u → w.cell? (ad.add j) = some u) (h1 : ∀ u ∈ news, u.oneCell' = true)
    (h63 : n + m ≤ maxLen) (hbytes : (n + m) * bytes ≤ 140737488355328) (hbase : base ≤ w.heap.size)
    (hK : ∀ v' w', Mid w' base e size v' (n + m) (xs ++ news) → Ran v v' w w' → wpList P ops Q rest (a.put o.dst v') w') : wpList P ops Q (o :: rest) a w :=
  wpList_plain hg fun K hK' => wp_append_mid s x t ho base e i z size bytes ht hi hz hsize hby hzs hsz v n xs hs h ad m c news hx hl hnews h1 h63 hbytes hbase (fun v' w' q1 q2 => hK' _ _ (hK v' w' q1 q2))
end

end Go.Proofs.Ytndmpdpmfieacaa

namespace Go.Proofs.Ytndmpdpmfieacaa
open Go.RowKit Go.WideShapes Go.ChangeShapes
set_option linter.all false
/-- The free ones are the pools' own; generations up to G. -/
structure Ok (sl : List Sl) (xs : Nat → List Int) (G : Nat) : Prop where
  free : ∀ i, i < sl.length → ((i : Int) ∈ xs (sl.getD i dS).cls ↔ (sl.getD i dS).live = false)
  only : ∀ c x, x ∈ xs c → ∃ i, i < sl.length ∧ x = (i : Int) ∧ (sl.getD i dS).cls = c
  gen : ∀ i, i < sl.length → 1 ≤ (sl.getD i dS).gen ∧ (sl.getD i dS).gen ≤ G
theorem Fr.ok {ns : Nat → Nat} {sl : List Sl} {xs : Nat → List Int} (h : Fr ns 5 0 sl xs) : Ok sl xs 1 := by
  refine ⟨fun i hi => ?_, fun c x hx => (h.mem c x).1 hx, fun i hi => by rw [(h.all i hi).1]; omega⟩
  rw [(h.all i hi).2]
  exact ⟨fun _ => rfl, fun _ => (h.mem _ _).2 ⟨i, hi, rfl, rfl⟩⟩
section
variable {sl : List Sl} {xs : Nat → List Int} {G i c : Nat}
theorem Ok.more (h : Ok sl xs G) : Ok sl xs (G + 1) := ⟨h.free, h.only, fun i hi => by have := h.gen i hi; omega⟩
/-- The head of a pool. -/
theorem Ok.head (h : Ok sl xs G) (hx : xs c ≠ []) : ∃ i, i < sl.length ∧ (xs c).getD 0 0 = (i : Int) ∧ (sl.getD i dS).cls = c ∧ (sl.getD i dS).live = false := by
  have hm : (xs c).getD 0 0 ∈ xs c := by
    rw [List.getD_eq_getElem?_getD, List.getElem?_eq_getElem (List.length_pos_iff.2 hx)]; exact List.getElem_mem _
  obtain ⟨i, hi, e, hc⟩ := h.only c _ hm
  refine ⟨i, hi, e, hc, (h.free i hi).1 ?_⟩
  rw [hc, ← e]; exact hm
theorem Ok.alloc (h : Ok sl xs G) (hi : i < sl.length) (hx : xs c ≠ []) (hxi : (xs c).getD 0 0 = (i : Int)) (hic : (sl.getD i dS).cls = c) (hnd : (xs c).Nodup) (l : List Int) : Ok (sl.set i (made (sl.getD i dS) l)) (up xs c (popF (xs c))) G := by
  have hp := popF_mem (xs c) hx hnd
  refine ⟨fun j hj => ?_, fun d x hd => ?_, fun j hj => ?_⟩
  · rw [List.length_set] at hj
    rw [getD_set hi]
    by_cases e : j = i
    · subst e
      rw [if_pos rfl]
      show _ ∈ up xs c (popF (xs c)) (sl.getD j dS).cls ↔ true = false
      rw [hic, up_same, hp, hxi]
      simp
    · rw [if_neg e, ← h.free j hj]
      by_cases e2 : (sl.getD j dS).cls = c
      · rw [e2, up_same, hp, hxi]
        exact ⟨fun h => h.1, fun h => ⟨h, by omega⟩⟩
      · rw [up_other _ _ e2]
  · have h2 : x ∈ xs d := by
      by_cases e : d = c
      · subst e; rw [up_same] at hd; exact ((hp x).1 hd).1
      · rw [up_other _ _ e] at hd; exact hd
    obtain ⟨j, hj, e, hc⟩ := h.only d x h2
    refine ⟨j, by rw [List.length_set]; exact hj, e, ?_⟩
    rw [getD_set hi]
    split
    · rename_i e2; subst e2; exact hc
    · exact hc
  · rw [List.length_set] at hj
    rw [getD_set hi]
    split
    · exact h.gen i hi
    · exact h.gen j hj
theorem Ok.freed (h : Ok sl xs G) (hi : i < sl.length) (hic : (sl.getD i dS).cls = c) : Ok (sl.set i (freed (sl.getD i dS))) (up xs c (pushF (xs c) i)) (G + 1) := by
  have hp : ∀ x, x ∈ pushF (xs c) i ↔ x = (i : Int) ∨ x ∈ xs c := fun x => by rw [(pushF_perm _ _).mem_iff, List.mem_cons]
  refine ⟨fun j hj => ?_, fun d x hd => ?_, fun j hj => ?_⟩
  · rw [List.length_set] at hj
    rw [getD_set hi]
    by_cases e : j = i
    · subst e
      rw [if_pos rfl]
      show _ ∈ up xs c (pushF (xs c) j) (sl.getD j dS).cls ↔ false = false
      rw [hic, up_same, hp]
      simp
    · rw [if_neg e, ← h.free j hj]
      by_cases e2 : (sl.getD j dS).cls = c
      · rw [e2, up_same, hp]
        exact ⟨fun h => by rcases h with h | h; omega; exact h, .inr⟩
      · rw [up_other _ _ e2]
  · have h2 : x ∈ xs d ∨ (x = (i : Int) ∧ d = c) := by
      by_cases e : d = c
      · subst e; rw [up_same, hp] at hd; rcases hd with hd | hd; exact .inr ⟨hd, rfl⟩; exact .inl hd
      · rw [up_other _ _ e] at hd; exact .inl hd
    have h3 : ∃ j, j < sl.length ∧ x = (j : Int) ∧ (sl.getD j dS).cls = d := by
      rcases h2 with h2 | ⟨h2, h4⟩
      · exact h.only d x h2
      · exact ⟨i, hi, h2, by rw [h4]; exact hic⟩
    obtain ⟨j, hj, e, hc⟩ := h3
    refine ⟨j, by rw [List.length_set]; exact hj, e, ?_⟩
    rw [getD_set hi]
    split
    · rename_i e2; subst e2; exact hc
    · exact hc
  · rw [List.length_set] at hj
    rw [getD_set hi]
    split
    · have := h.gen i hi
      show 1 ≤ (sl.getD i dS).gen + 1 ∧ (sl.getD i dS).gen + 1 ≤ G + 1
      omega
    · have := h.gen j hj; omega
theorem Ok.not_mem (h : Ok sl xs G) (hi : i < sl.length) (hl : (sl.getD i dS).live = true) : (i : Int) ∉ xs (sl.getD i dS).cls := fun hm => by
  have := (h.free i hi).1 hm
  rw [hl] at this; cases this
/-- The slot that a ref names. -/
theorem live_ref (hi : i < sl.length) (h9 : i < 1024) (hl : (sl.getD i dS).live = true) (hg : 1 ≤ (sl.getD i dS).gen ∧ (sl.getD i dS).gen ≤ 1073741824) : Live sl (refV i (sl.getD i dS).gen (((sl.getD i dS).cls : Int) == 0)) i := by
  obtain ⟨h1, h2, h3⟩ := slot_part (s := (i : Int)) (g := ((sl.getD i dS).gen : Int)) (l := (((sl.getD i dS).cls : Int) == 0)) (by omega) (by omega)
  exact ⟨good_ref (by omega) (by omega), hi, h1, h3, h2, hl⟩
end
/-- A row of numbers of the law's own; F's blocks keep out of it. -/
structure Rw (F : Nat → Prop) (W : World) (N : Nat) (v : Value) (n : Nat) (xs : List Int) : Prop where
  mid : Mid W N 3 1 v n (ks .i64 xs)
  out : ∀ g, v.ownBlock = some g → ¬ F g
section
variable {F F' : Nat → Prop} {W W' : World} {N n : Nat} {v v' : Value} {xs : List Int}
theorem Rw.nil (F : Nat → Prop) (W : World) (N : Nat) : Rw F W N (.slice none 0 0) 0 [] := ⟨Mid.nil _ _ _ _, fun g hg => by cases hg⟩
theorem Rw.mv (h : Rw F W N v n xs) (hm : Mv F F' W W') : Rw F' W' N v n xs :=
  ⟨h.mid.same fun g hg => hm.block g (h.mid.lt g hg).2 (h.out g hg), fun g hg hf => by
    rcases hm.foot g hf with h1 | h1
    · exact h.out g hg h1
    · have := (h.mid.lt g hg).2; omega⟩
theorem Rw.on (h : Rw F W N v n xs) (hb : Below W.heap.size W W') : Rw F W' N v n xs := ⟨h.mid.onb hb, h.out⟩
/-- The row has grown. -/
theorem Rw.app {x : Int} (h : Rw F W N v n xs) (hF : ∀ b, F b → b < W.heap.size) (hm : Mid W' N 3 1 v' (n + 1) (ks .i64 xs ++ [.int .i64 x])) (hr : Ran v v' W W') : Rw F W' N v' (n + 1) (xs ++ [x]) := by
  refine ⟨by rw [ks_append]; exact hm, fun g hg hf => ?_⟩
  rcases hr.at_ with e | e
  · exact h.out g (e ▸ hg) hf
  · have := e g hg; have := hF g hf; omega
/-- Another row has grown. -/
theorem Rw.other {u u' : Value} (h : Rw F W N v n xs) (hne : ∀ g, v.ownBlock = some g → u.ownBlock ≠ some g) (hr : Ran u u' W W') : Rw F W' N v n xs := ⟨h.mid.on_apart hne hr, h.out⟩
theorem apart_ran {u u' : Value} (h : ∀ g, v.ownBlock = some g → u.ownBlock ≠ some g) (hlt : ∀ g, v.ownBlock = some g → g < W.heap.size) (hr : Ran u u' W W') : ∀ g, v.ownBlock = some g → u'.ownBlock ≠ some g := fun g hg hu => by
  rcases hr.at_ with e | e
  · exact h g hg (e ▸ hu)
  · have := e g hu; have := hlt g hg; omega
end
section
variable {N B S k q : Nat} {sl : List Sl} {P I : Nat → Nat} {V : Nat → Value} {xs : Nat → List Int} {W W' : World}
/-- The arena where a row has grown. -/
theorem Ar.ran {u u' : Value} (h : Ar N B S k q sl P I V xs W) (hne : ∀ g, u.ownBlock = some g → ¬ Foot B S q sl P I V g) (hr : Ran u u' W W') : Ar N B S k q sl P I V xs W' :=
  h.same fun b hf => hr.grown.block b (h.foot hf).2 (fun e => hne b e.symm hf)
theorem Ar.far (h : Ar N B S k q sl P I V xs W) {a : Addr} (hne : ¬ Foot B S q sl P I V a.block) (u : Value) : Ar N B S k q sl P I V xs (W.setCell a u) :=
  h.same fun b hf => heap_far W a u (fun e => hne (e ▸ hf))
end
end Go.Proofs.Ytndmpdpmfieacaa

namespace Go.Proofs.Ytndmpdpmfieacaa
open Go.RowKit Go.WideShapes Go.ChangeShapes
set_option linter.all false
theorem least_mem {xs : List Int} (h : Heaped xs xs.length) (x : Int) (hx : x ∈ xs) : xs.getD 0 0 ≤ x := by
  obtain ⟨i, hi, rfl⟩ := List.mem_iff_getElem.1 hx
  have := h.least i hi
  rwa [List.getD_eq_getElem?_getD (i := i), List.getElem?_eq_getElem hi] at this
def refL (m : Nat) (gs : Nat → Nat) : List Int := (List.range m).map fun (j : Nat) => refV (j : Nat) (gs j : Nat) true
def genL (m : Nat) (gs : Nat → Nat) : List Int := (List.range m).map fun (j : Nat) => ((gs j : Nat) : Int)
/-- An arena of n slots of class c: which are live, their generations; d are free. -/
structure LA (N B S k n c G d : Nat) (lv : Nat → Bool) (gs : Nat → Nat) (sl : List Sl) (P I : Nat → Nat) (V : Nat → Value) (xs : Nat → List Int) (W : World) : Prop where
  ar : Ar N B S k 5 sl P I V xs W
  ok : Ok sl xs G
  len : sl.length = n
  all : ∀ i, i < n → (sl.getD i dS).cls = c ∧ (sl.getD i dS).gen = gs i ∧ (sl.getD i dS).live = lv i
  cnt : (xs c).length = d
/-- Two rows beside it: the refs and the generations of the first m. -/
structure LR (w : World) (F : Nat → Prop) (N m : Nat) (gs gt : Nat → Nat) (VR VG : Value) (W : World) : Prop where
  rr : Rw F W N VR m (refL m gs)
  rg : Rw F W N VG m (genL m gt)
  ap : ∀ g, VR.ownBlock = some g → VG.ownBlock ≠ some g
  bel : Below w.heap.size w W
  ltF : ∀ b, F b → b < W.heap.size
  NW : w.heap.size ≤ N ∧ N ≤ W.heap.size
theorem refL_snoc (m : Nat) (gs : Nat → Nat) : refL (m + 1) gs = refL m gs ++ [refV (m : Int) (gs m : Int) true] := by simp [refL, List.range_succ]
theorem genL_snoc (m : Nat) (gs : Nat → Nat) : genL (m + 1) gs = genL m gs ++ [(gs m : Int)] := by simp [genL, List.range_succ]
theorem rl_get {m : Nat} {f : Nat → Int} {k : Nat} (hk : k < m) : ((List.range m).map f)[k]? = some (f k) := by simp [hk]
theorem rl_set (m : Nat) (f : Nat → Int) (k : Nat) (x : Int) : ((List.range m).map f).set k x = (List.range m).map fun j => if j = k then x else f j := by
  apply List.ext_getElem?
  intro j
  rw [List.getElem?_set]
  by_cases hj : j < m
  · by_cases e : k = j
    · subst e; simp [hj]
    · rw [if_neg e]
      simp [hj, Ne.symm e]
  · by_cases e : k = j
    · subst e; simp [hj]
    · rw [if_neg e]; simp [hj]
section
variable {w W W' : World} {N B S k n c G d m : Nat} {lv : Nat → Bool} {gs gt : Nat → Nat} {VR VG : Value} {sl : List Sl} {P I : Nat → Nat} {V : Nat → Value} {xs : Nat → List Int} {F F' : Nat → Prop}
theorem LA.on (h : LA N B S k n c G d lv gs sl P I V xs W) (hb : Below W.heap.size W W') : LA N B S k n c G d lv gs sl P I V xs W' := ⟨h.ar.on hb, h.ok, h.len, h.all, h.cnt⟩
/-- The next one that is taken. -/
theorem LA.head (h : LA N B S k n c G d lv gs sl P I V xs W) (hc : c < 5) (hd : 0 < d) : xs c ≠ [] ∧ ∃ i, i < n ∧ (xs c).getD 0 0 = (i : Int) ∧ lv i = false ∧ ∀ j, j < n → lv j = false → i ≤ j := by
  have hne : xs c ≠ [] := fun e => by have := h.cnt; rw [e] at this; simp at this; omega
  obtain ⟨i, hi, e, hcc, hl⟩ := h.ok.head hne
  rw [h.len] at hi
  have ha := h.all i hi
  refine ⟨hne, i, hi, e, by rw [← ha.2.2]; exact hl, fun j hj hlj => ?_⟩
  have hj2 := h.all j hj
  have hmem : (j : Int) ∈ xs c := by
    have h2 := h.ok.free j (by rw [h.len]; exact hj)
    rw [hj2.1] at h2
    exact h2.2 (by rw [hj2.2.2]; exact hlj)
  have h1 := least_mem (h.ar.pl c hc).heap _ hmem
  rw [e] at h1
  omega
theorem LA.alloc (h : LA N B S k n c G d lv gs sl P I V xs W) (hc : c < 5) (hn : n ≤ 1024) (hG : G ≤ 1000000) (hd9 : d ≤ 1024) (hd : 0 < d) {i : Nat} (hi : i < n) (hx : (xs c).getD 0 0 = (i : Int)) {A : Option Addr} {mm cc M : Nat} {l : List Int} (hr : Reads W M 1 A mm (wv l)) (hM : M ≤ W.heap.size) (hfar : ∀ ad, A = some ad → 0 < mm → ¬ Foot B S 5 sl P I V ad.block) (hm : mm ≤ szN c) :
    Calls Try.prog 23 #[.pointer (some ⟨B, 0, none⟩), .int .i64 (c : Nat), .slice A mm cc] W fun e w' => e = .returned (.tuple #[.int .i64 (refV (i : Nat) (gs i : Nat) (((c : Nat) : Int) == 0)), .int .i64 0]) ∧ ∃ sl' V' xs', LA N B S k n c G (d - 1) (up lv i true) gs sl' P I V' xs' w' ∧ Mv (Foot B S 5 sl P I V) (Foot B S 5 sl' P I V') W w' ∧ sl' = sl.set i (made (sl.getD i dS) l) := by
  have hne : xs c ≠ [] := fun e => by have := h.cnt; rw [e] at this; simp at this; omega
  have hl := h.len
  have ha := h.all i hi
  have hg := h.ok.gen i (by omega)
  have hcn := h.cnt
  refine (alloc_ok h.ar (by omega) (i := i) hc hr hM hfar hm hne (by omega) (by omega) hx ha.1 (by omega)).mono ?_
  rintro e w' ⟨rfl, v', har, hmv⟩
  rw [ha.2.1]
  refine ⟨rfl, _, _, _, ⟨har, h.ok.alloc (by omega) hne hx ha.1 (h.ar.pl c hc).nodup l, by rw [List.length_set]; exact hl, fun j hj => ?_, by rw [up_same, popF_len _ hne, hcn]⟩, hmv, rfl⟩
  rw [getD_set (by omega)]
  by_cases e : j = i
  · subst e
    rw [if_pos rfl, up_same]
    exact ⟨ha.1, ha.2.1, rfl⟩
  · rw [if_neg e, up_other _ _ e]
    exact h.all j hj
theorem LA.freed (h : LA N B S k n c G d lv gs sl P I V xs W) (hc : c < 5) (hn : n ≤ 1024) (hk : n ≤ k) (hG : G ≤ 1000000) (hd9 : d ≤ 1024) {i : Nat} (hi : i < n) (hl : lv i = true) :
    Calls Try.prog 18 #[.pointer (some ⟨B, 0, none⟩), .int .i64 (refV (i : Nat) (gs i : Nat) (((c : Nat) : Int) == 0))] W fun e w' => e = .returned (.int .i64 0) ∧ ∃ sl' V' xs', LA N B S k n c (G + 1) (d + 1) (up lv i false) (up gs i (gs i + 1)) sl' P I V' xs' w' ∧ Mv (Foot B S 5 sl P I V) (Foot B S 5 sl' P I V') W w' ∧ sl' = sl.set i (freed (sl.getD i dS)) := by
  have hlen := h.len
  have ha := h.all i hi
  have hg := h.ok.gen i (by omega)
  have hcn := h.cnt
  have hlv := live_ref (sl := sl) (i := i) (by omega) (by omega) (by rw [ha.2.2]; exact hl) (by omega)
  rw [ha.1, ha.2.1] at hlv
  refine (free_ok h.ar (by omega) hlv (by omega) (by omega) (h.ok.not_mem (by omega) (by rw [ha.2.2]; exact hl)) (by rw [ha.1]; omega)).mono ?_
  rintro e w' ⟨rfl, v', har, hmv⟩
  rw [ha.1] at har hmv
  refine ⟨rfl, _, _, _, ⟨har, h.ok.freed (by omega) ha.1, by rw [List.length_set]; exact hlen, fun j hj => ?_, by rw [up_same, pushF_len, hcn]⟩, hmv, rfl⟩
  rw [getD_set (by omega)]
  by_cases e : j = i
  · subst e
    rw [if_pos rfl, up_same, up_same]
    exact ⟨ha.1, by show _ + 1 = _; rw [ha.2.1], rfl⟩
  · rw [if_neg e, up_other _ _ e, up_other _ _ e]
    exact h.all j hj
theorem LR.mv (h : LR w F N m gs gt VR VG W) (hm : Mv F F' W W') (hF : ∀ b, F b → N ≤ b) (hl : ∀ b, F' b → b < W'.heap.size) : LR w F' N m gs gt VR VG W' := by
  have hb := h.bel
  have hN := h.NW
  have hs := hm.size
  exact ⟨h.rr.mv hm, h.rg.mv hm, h.ap, ⟨hm.os.trans hb.os, hm.tape.trans hb.tape, hm.output.trans hb.output, Nat.le_trans hb.size hs, fun b hbn => (hm.block b (by omega) (fun hf => by have := hF b hf; omega)).trans (hb.block b hbn)⟩, hl, by omega⟩
theorem LR.on (h : LR w F N m gs gt VR VG W) (hb : Below W.heap.size W W') : LR w F N m gs gt VR VG W' :=
  ⟨h.rr.on hb, h.rg.on hb, h.ap, h.bel.trans (hb.mono h.bel.size), fun b hf => Nat.lt_of_lt_of_le (h.ltF b hf) hb.size, by have := h.NW; have := hb.size; omega⟩
theorem LA.same (h : LA N B S k n c G d lv gs sl P I V xs W) (hb : ∀ b, Foot B S 5 sl P I V b → W'.heap[b]? = W.heap[b]?) : LA N B S k n c G d lv gs sl P I V xs W' := ⟨h.ar.same hb, h.ok, h.len, h.all, h.cnt⟩
theorem rng_map (m : Nat) (f : Nat → Int) : ks .i64 ((List.range (m + 1)).map f) = ks .i64 ((List.range m).map f) ++ [.int .i64 (f m)] := by simp [ks, List.range_succ]
/-- The second row where the first has grown. -/
theorem LR.mid2 (h : LR w F N m gs gt VR VG W) {VR' : Value} (o1 o3 : Obj) {W2 : World} (rx : Ran VR VR' (W.alloc o1) W2) : Mid (W2.alloc o3) N 3 1 VG m (ks .i64 (genL m gt)) ∧ N ≤ (W2.alloc o3).heap.size := by
  have hN := h.NW
  have := rx.grown.size
  simp at this
  exact ⟨((h.rg.mid.onb (below_alloc W o1)).on_apart (fun g hg hr => h.ap g hr hg) rx).onb (below_alloc W2 o3), by simp; omega⟩
set_option maxRecDepth 100000 in
theorem LR.push (h : LR w F N m gs gt VR VG W) {VR' VG' : Value} {o1 o3 : Obj} {W2 W4 : World} (hx : Mid W2 N 3 1 VR' (m + 1) (ks .i64 (refL m gs) ++ [.int .i64 (refV (m : Nat) (gs m : Nat) true)])) (rx : Ran VR VR' (W.alloc o1) W2)
    (hy : Mid W4 N 3 1 VG' (m + 1) (ks .i64 (genL m gt) ++ [.int .i64 ((gt m : Nat) : Int)])) (ry : Ran VG VG' (W2.alloc o3) W4) : LR w F N (m + 1) gs gt VR' VG' W4 ∧ ∀ b, F b → W4.heap[b]? = W.heap[b]? := by
  have hb := h.bel
  have hN := h.NW
  have s1 : (W.alloc o1).heap.size = W.heap.size + 1 := by simp
  have s3 : (W2.alloc o3).heap.size = W2.heap.size + 1 := by simp
  have g1 := rx.grown.size
  have g3 := ry.grown.size
  have b1 := below_alloc W o1
  have b3 := below_alloc W2 o3
  have hap : ∀ g, VG.ownBlock = some g → VR.ownBlock ≠ some g := fun g hg hr => h.ap g hr hg
  have r2 : Rw F W2 N VR' (m + 1) (refL (m + 1) gs) := by
    have := (h.rr.on b1).app (fun b hf => by have := h.ltF b hf; omega) hx rx
    rwa [← refL_snoc] at this
  have q2 : Rw F W2 N VG m (genL m gt) := (h.rg.on b1).other hap rx
  have ap2 : ∀ g, VR'.ownBlock = some g → VG.ownBlock ≠ some g := fun g hg hv => apart_ran hap (fun g hg => by have := (h.rg.mid.lt g hg).2; omega) rx g hv hg
  have lt2 : ∀ b, F b → b < W2.heap.size := fun b hf => by have := h.ltF b hf; omega
  have r4 : Rw F W4 N VG' (m + 1) (genL (m + 1) gt) := by
    have := (q2.on b3).app (fun b hf => by have := lt2 b hf; omega) hy ry
    rwa [← genL_snoc] at this
  have q4 : Rw F W4 N VR' (m + 1) (refL (m + 1) gs) := (r2.on b3).other ap2 ry
  have hb2 : Below w.heap.size w W2 := (hb.trans (b1.mono hb.size)).grown rx.grown (by have := hb.size; omega) (fun g hg => Nat.le_trans hN.1 (h.rr.mid.lt g hg).1)
  have hb4 : Below w.heap.size w W4 := (hb2.trans (b3.mono hb2.size)).grown ry.grown (by have := hb2.size; omega) (fun g hg => Nat.le_trans hN.1 (h.rg.mid.lt g hg).1)
  refine ⟨⟨q4, r4, apart_ran ap2 (fun g hg => by have := (r2.mid.lt g hg).2; omega) ry, hb4, fun b hf => by have := lt2 b hf; omega, by omega⟩, fun b hf => ?_⟩
  have e1 := b1.block b (h.ltF b hf)
  have e2 := rx.grown.block b (by have := h.ltF b hf; omega) (fun e => h.rr.out b e.symm hf)
  have e3 := b3.block b (lt2 b hf)
  have e4 := ry.grown.block b (by have := lt2 b hf; omega) (fun e => h.rg.out b e.symm hf)
  exact e4.trans (e3.trans (e2.trans e1))
theorem Rw.get {A : Option Addr} {cc kk : Nat} {f : Nat → Int} (h : Rw F W N (.slice A m cc) m ((List.range m).map f)) (hk : kk < m) : ∃ ad, A = some ad ∧ W.cell? (ad.add kk) = some (.int .i64 (f kk)) := by
  obtain ⟨ad, u, e, hb, hu, hc⟩ := h.mid.readsv.at_ hk
  refine ⟨ad, e, ?_⟩
  rw [hc]
  unfold ks at hu
  rw [List.getElem?_map, rl_get hk] at hu
  exact hu.symm
theorem Rw.set {A : Option Addr} {cc kk : Nat} {f : Nat → Int} (h : Rw F W N (.slice A m cc) m ((List.range m).map f)) (hk : kk < m) (x : Int) : ∃ ad v, A = some ad ∧ W.cell? (ad.add kk) = some v ∧ W.frozen? (ad.add kk) = false ∧ Rw F (W.setCell (ad.add kk) (.int .i64 x)) N (.slice A m cc) m ((List.range m).map fun j => if j = kk then x else f j) ∧ N ≤ ad.block ∧ (Value.slice A m cc).ownBlock = some ad.block := by
  obtain ⟨ad, v, e, hc, hf, hm, hN, _, _, ho⟩ := h.mid.put hk (.int .i64 x)
  refine ⟨ad, v, e, hc, hf, ⟨?_, h.out⟩, hN, ho⟩
  rw [← rl_set]
  unfold ks at hm ⊢
  rw [List.map_set]
  exact hm
end
section
variable {w W : World} {N m kk cc : Nat} {gs gt : Nat → Nat} {F : Nat → Prop} {A : Option Addr} {VR VG : Value}
theorem LR.setG (h : LR w F N m gs gt VR (.slice A m cc) W) (hk : kk < m) (x : Nat) : ∃ ad v, A = some ad ∧ W.cell? (ad.add kk) = some v ∧ W.frozen? (ad.add kk) = false ∧ LR w F N m gs (up gt kk x) VR (.slice A m cc) (W.setCell (ad.add kk) (.int .i64 (x : Nat))) ∧ ∀ b, F b → (W.setCell (ad.add kk) (.int .i64 (x : Nat))).heap[b]? = W.heap[b]? := by
  have hN := h.NW
  obtain ⟨ad, v, e, hc, hf, hr, hb, ho⟩ := Rw.set (f := fun j => ((gt j : Nat) : Int)) h.rg hk (x : Nat)
  have hbk : (ad.add kk).block = ad.block := block_of_add ..
  refine ⟨ad, v, e, hc, hf, ⟨⟨h.rr.mid.far_set (fun g hg => by rw [hbk]; rintro rfl; exact h.ap _ hg ho) _, h.rr.out⟩, ?_, h.ap, h.bel.setCell (by rw [hbk]; omega) _, fun b hf => by simpa using h.ltF b hf, by simpa using hN⟩, fun b hf => heap_far _ _ _ (by rw [hbk]; rintro rfl; exact h.rg.out _ ho hf)⟩
  have e2 : genL m (up gt kk x) = (List.range m).map fun j => if j = kk then ((x : Nat) : Int) else ((gt j : Nat) : Int) := by
    unfold genL
    refine congrArg (fun f => List.map f (List.range m)) (funext fun j => ?_)
    by_cases e : j = kk
    · subst e; rw [up_same, if_pos rfl]
    · rw [up_other _ _ e, if_neg e]
  rw [e2]; exact hr
theorem LR.setR (h : LR w F N m gs gt (.slice A m cc) VG W) (hk : kk < m) (x : Nat) : ∃ ad v, A = some ad ∧ W.cell? (ad.add kk) = some v ∧ W.frozen? (ad.add kk) = false ∧ LR w F N m (up gs kk x) gt (.slice A m cc) VG (W.setCell (ad.add kk) (.int .i64 (refV (kk : Nat) (x : Nat) true))) ∧ ∀ b, F b → (W.setCell (ad.add kk) (.int .i64 (refV (kk : Nat) (x : Nat) true))).heap[b]? = W.heap[b]? := by
  have hN := h.NW
  obtain ⟨ad, v, e, hc, hf, hr, hb, ho⟩ := Rw.set (f := fun j => refV (j : Nat) (gs j : Nat) true) h.rr hk (refV (kk : Nat) (x : Nat) true)
  have hbk : (ad.add kk).block = ad.block := block_of_add ..
  refine ⟨ad, v, e, hc, hf, ⟨?_, ⟨h.rg.mid.far_set (fun g hg => by rw [hbk]; rintro rfl; exact h.ap _ ho hg) _, h.rg.out⟩, h.ap, h.bel.setCell (by rw [hbk]; omega) _, fun b hf => by simpa using h.ltF b hf, by simpa using hN⟩, fun b hf => heap_far _ _ _ (by rw [hbk]; rintro rfl; exact h.rr.out _ ho hf)⟩
  have e2 : refL m (up gs kk x) = (List.range m).map fun j => if j = kk then refV (kk : Nat) (x : Nat) true else refV (j : Nat) (gs j : Nat) true := by
    unfold refL
    refine congrArg (fun f => List.map f (List.range m)) (funext fun j => ?_)
    by_cases e : j = kk
    · subst e; rw [up_same, if_pos rfl]
    · rw [up_other _ _ e, if_neg e]
  rw [e2]; exact hr
end
end Go.Proofs.Ytndmpdpmfieacaa
