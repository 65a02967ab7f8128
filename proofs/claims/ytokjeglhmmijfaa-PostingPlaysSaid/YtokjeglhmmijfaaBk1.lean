/-
  Lists of numbers of a kind: sameness, rooms behind them; conditions: lengths.
-/
import Derived.Test.YtokjeglhmmijfaaRd
import Derived.Test.YtokjeglhmmijfaaMid
import Derived.Test.YtokjeglhmmijfaaProg
import Derived.WalkKit
import Derived.BigRegion
import Derived.LoopTactic
import Derived.Laws.Small
import Derived.Laws.Cover1
import Derived.Laws.Slices
import Derived.OwnWalk
import Derived.Laws.CopyOwn
import Derived.Laws.Rows
import Derived.Lib.Hide
namespace Go.Proofs.Ytokjeglhmmijfaa
open Go.RowKit Go.WideShapes Go.ChangeShapes
set_option linter.all false
def ks (κ : IntKind) (xs : List Int) : List Value := xs.map (.int κ)
theorem ks_len (κ : IntKind) (xs : List Int) : (ks κ xs).length = xs.length := by simp [ks]
theorem Reads.kl {κ : IntKind} {w : World} {B : Nat} {A : Option Addr} {n : Nat} {xs : List Int} (h : Reads w B 1 A n (ks κ xs)) : xs.length = n := by
  have := h.1; rw [ks_len] at this; omega
theorem Reads.kat {κ : IntKind} {w : World} {B : Nat} {A : Option Addr} {n k : Nat} {xs : List Int} (h : Reads w B 1 A n (ks κ xs)) (hk : k < n) :
    ∃ ad, A = some ad ∧ w.cell? (ad.add k) = some (.int κ (xs.getD k 0)) := by
  obtain ⟨ad, u, e, _, hu, hc⟩ := h.at_ hk
  refine ⟨ad, e, ?_⟩
  rw [hc]
  unfold ks at hu
  rw [List.getElem?_map] at hu
  have hl : k < xs.length := by rw [h.kl]; exact hk
  rw [List.getElem?_eq_getElem hl] at hu
  injection hu with hu
  rw [← hu, List.getD_eq_getElem?_getD, List.getElem?_eq_getElem hl]; rfl
theorem ks_get (κ : IntKind) (xs : List Int) (j : Nat) (h : j < xs.length) : (ks κ xs)[j]? = some (.int κ (xs.getD j 0)) := by
  unfold ks
  rw [List.getElem?_map, List.getElem?_eq_getElem h, List.getD_eq_getElem?_getD, List.getElem?_eq_getElem h]; rfl
theorem ks_one (κ : IntKind) (xs : List Int) : ∀ v ∈ ks κ xs, v.oneCell' = true := by
  intro v hv
  unfold ks at hv
  obtain ⟨x, _, rfl⟩ := List.mem_map.1 hv
  rfl
theorem ks_append (κ : IntKind) (a b : List Int) : ks κ (a ++ b) = ks κ a ++ ks κ b := List.map_append
theorem zeros_k (κ : IntKind) (n : Nat) : (madeCells (Value.int κ 0).cells (n * 1)).toList = ks κ (List.replicate n 0) := by
  rw [Nat.mul_one]
  unfold ks
  rw [List.map_replicate]
  exact toList_madeCells_one _ _
theorem cell_heap {w w' : World} (h : w'.heap = w.heap) (p : Addr) : w'.cell? p = w.cell? p := by unfold World.cell?; rw [h]
theorem take_same {xs ys : List Int} {k : Nat} (hx : k < xs.length) (hy : k < ys.length) (h : xs.take k = ys.take k) (he : xs.getD k 0 = ys.getD k 0) : xs.take (k + 1) = ys.take (k + 1) := by
  rw [List.take_add_one, List.take_add_one, h, List.getElem?_eq_getElem hx, List.getElem?_eq_getElem hy]
  rw [List.getD_eq_getElem?_getD, List.getD_eq_getElem?_getD, List.getElem?_eq_getElem hx, List.getElem?_eq_getElem hy] at he
  simp at he
  simp [he]
def eqB (xs ys : List Int) : Bool := decide (xs = ys)
theorem eqB_true {xs ys : List Int} (h : xs = ys) : Value.bool (eqB xs ys) = .bool true := by unfold eqB; rw [decide_eq_true h]
theorem eqB_false {xs ys : List Int} (h : xs ≠ ys) : Value.bool (eqB xs ys) = .bool false := by unfold eqB; rw [decide_eq_false h]
set_option maxHeartbeats 800000 in
theorem same_i (B : Nat) (A A' : Option Addr) (n m c c' : Nat) (xs ys : List Int) (w : World) (hx : Reads w B 1 A n (ks .i64 xs)) (hy : Reads w B 1 A' m (ks .i64 ys)) (hn : n ≤ 9223372036854775807) (hm : m ≤ 9223372036854775807) :
    Calls Try.prog 17 #[.slice A n c, .slice A' m c'] w fun e w' => e = .returned (.bool (eqB xs ys)) ∧ Below w.heap.size w w' := by
  have LX : Hid (xs.length = n) := hx.kl
  have LY : Hid (ys.length = m) := hy.kl
  by_cases hnm : n = m
  · subst hnm
    go_enter Try.func17, Try.ntmps17
    go_wp2
    go_loopw [5] (fun i wr => ∃ k : Nat, k ≤ n ∧ i = .int .i64 k ∧ xs.take k = ys.take k ∧ Below w.heap.size w wr ∧ wr.heap = w.heap) (fun i _ => n - (intOf i).toNat)
    case atStart => exact ⟨0, Nat.zero_le _, rfl, rfl, Below.refl _ _, rfl⟩
    case round =>
      obtain ⟨k, hk, rfl, htk, hbl, hhp⟩ := hrel
      have HH : Hid (wr.heap = w.heap) := hhp
      have HT : Hid (xs.take k = ys.take k) := htk
      clear hhp htk
      by_cases hlt : k < n
      · obtain ⟨ad, rfl, h1⟩ := hx.kat hlt
        obtain ⟨ad', rfl, h2⟩ := hy.kat hlt
        rw [← cell_heap HH.out] at h1 h2
        go_wp2
        go_region
        all_goals (try go_wp2)
        · have hne : (xs.getD k 0 != ys.getD k 0) = true := by assumption
          go_ret
          refine ⟨?_, hbl.drew⟩
          rw [eqB_false (fun e => by subst e; simp at hne)]; rfl
        · have hne : (xs.getD k 0 != ys.getD k 0) = false := by assumption
          go_roundw
          case rel => exact ⟨k + 1, by omega, by go_num, take_same (by rw [LX.out]; exact hlt) (by rw [LY.out]; exact hlt) HT.out (by simpa using hne), hbl.drew, HH.out⟩
          case measure => simp only [intOf]; omega
      · have hkn : k = n := by omega
        have hq := HT.out
        rw [List.take_of_length_le (by rw [LX.out]; omega), List.take_of_length_le (by rw [LY.out]; omega)] at hq
        clear hkn
        have HQ : Hid (xs = ys) := hq
        clear hq
        go_wp2
        go_ret
        exact ⟨by rw [eqB_true HQ.out]; rfl, hbl⟩
  · have hne : xs ≠ ys := by
      rintro rfl
      exact hnm (LX.out.symm.trans LY.out)
    have HN : Hid (xs ≠ ys) := hne
    clear hne
    go_enter Try.func17, Try.ntmps17
    go_wp2
    go_ret
    exact ⟨by rw [eqB_false HN.out]; rfl, Below.refl _ _⟩
set_option maxHeartbeats 800000 in
theorem equal_b (B : Nat) (A A' : Option Addr) (n m c c' : Nat) (xs ys : List Int) (w : World) (hx : Reads w B 1 A n (ks .u8 xs)) (hy : Reads w B 1 A' m (ks .u8 ys)) (hn : n ≤ 9223372036854775807) (hm : m ≤ 9223372036854775807) :
    Calls Try.prog 54 #[.slice A n c, .slice A' m c'] w fun e w' => e = .returned (.bool (eqB xs ys)) ∧ Below w.heap.size w w' := by
  have LX : Hid (xs.length = n) := hx.kl
  have LY : Hid (ys.length = m) := hy.kl
  by_cases hnm : n = m
  · subst hnm
    go_enter Try.func54, Try.ntmps54
    go_wp2
    go_loopw [13] (fun i wr => ∃ k : Nat, k ≤ n ∧ i = .int .i64 k ∧ xs.take k = ys.take k ∧ Below w.heap.size w wr ∧ wr.heap = w.heap) (fun i _ => n - (intOf i).toNat)
    case atStart => exact ⟨0, Nat.zero_le _, rfl, rfl, Below.refl _ _, rfl⟩
    case round =>
      obtain ⟨k, hk, rfl, htk, hbl, hhp⟩ := hrel
      have HH : Hid (wr.heap = w.heap) := hhp
      have HT : Hid (xs.take k = ys.take k) := htk
      clear hhp htk
      by_cases hlt : k < n
      · obtain ⟨ad, rfl, h1⟩ := hx.kat hlt
        obtain ⟨ad', rfl, h2⟩ := hy.kat hlt
        rw [← cell_heap HH.out] at h1 h2
        go_wp2
        go_region
        all_goals (try go_wp2)
        · have hne : (xs.getD k 0 != ys.getD k 0) = true := by assumption
          go_ret
          refine ⟨?_, hbl.drew⟩
          rw [eqB_false (fun e => by subst e; simp at hne)]; rfl
        · have hne : (xs.getD k 0 != ys.getD k 0) = false := by assumption
          go_roundw
          case rel => exact ⟨k + 1, by omega, by go_num, take_same (by rw [LX.out]; exact hlt) (by rw [LY.out]; exact hlt) HT.out (by simpa using hne), hbl.drew, HH.out⟩
          case measure => simp only [intOf]; omega
      · have hkn : k = n := by omega
        have hq := HT.out
        rw [List.take_of_length_le (by rw [LX.out]; omega), List.take_of_length_le (by rw [LY.out]; omega)] at hq
        clear hkn
        have HQ : Hid (xs = ys) := hq
        clear hq
        go_wp2
        go_ret
        exact ⟨by rw [eqB_true HQ.out]; rfl, hbl⟩
  · have hne : xs ≠ ys := by
      rintro rfl
      exact hnm (LX.out.symm.trans LY.out)
    have HN : Hid (xs ≠ ys) := hne
    clear hne
    go_enter Try.func54, Try.ntmps54
    go_wp2
    go_ret
    exact ⟨by rw [eqB_false HN.out]; rfl, Below.refl _ _⟩
def Blk (w : World) (g : Nat) (t : TypeId) (cs : Array Value) : Prop := w.heap[g]? = some (.cells cs t (0, 0))

section
variable {w w' : World} {g : Nat} {t : TypeId} {cs : Array Value}
theorem Blk.lt (h : Blk w g t cs) : g < w.heap.size := by
  rcases Nat.lt_or_ge g w.heap.size with hlt | hge
  · exact hlt
  · unfold Blk at h; rw [Array.getElem?_eq_none hge] at h; cases h
theorem Blk.cell (h : Blk w g t cs) (i : Nat) : w.cell? ⟨g, i, none⟩ = cs[i]? := cell_of_row w g i cs t (0, 0) h
theorem Blk.frozen (h : Blk w g t cs) (i : Nat) : w.frozen? ⟨g, i, none⟩ = false := by
  unfold Blk at h
  simp [World.frozen?, h]
theorem Blk.new (w : World) (t : TypeId) (cs : Array Value) : Blk (w.alloc (.cells cs t)) w.heap.size t cs := heap_alloc_new w _
theorem Blk.drew (h : Blk w g t cs) : Blk w.drew g t cs := h
theorem Blk.drewN (h : Blk w g t cs) (n : Nat) : Blk (w.drewN n) g t cs := h
theorem Blk.alloc (h : Blk w g t cs) (o : Obj) : Blk (w.alloc o) g t cs := (Below.heap_alloc w o g h.lt).trans h
theorem Blk.set_ (h : Blk w g t cs) (i : Nat) (u : Value) : Blk (w.setCell ⟨g, i, none⟩ u) g t (cs.setIfInBounds i u) := by
  unfold Blk at h ⊢
  simp [World.setCell, Array.getElem?_modify, h]
theorem Blk.far (h : Blk w g t cs) {p : Addr} (hp : g ≠ p.block) (u : Value) : Blk (w.setCell p u) g t cs := (Below.heap_setCell w p u g hp).trans h
theorem Blk.below {B : Nat} (h : Blk w g t cs) (hb : Below B w w') (hg : g < B) : Blk w' g t cs := (hb.block g hg).trans h
theorem Blk.grown {row : Option Nat} (h : Blk w g t cs) (hb : w.grownBy w' row) (hg : some g ≠ row) : Blk w' g t cs := (hb.block g h.lt hg).trans h
theorem Blk.ne_ {g' : Nat} {t' : TypeId} {cs' : Array Value} (h : Blk w g t cs) (h' : Blk w g' t' cs') (hne : t ≠ t') : g ≠ g' := by
  rintro rfl
  unfold Blk at h h'
  rw [h] at h'
  injection h' with h'
  injection h' with _ ht
  exact hne ht
theorem own_blk_ne {base : Nat} {e : TypeId} {size n : Nat} {v : Value} {xs : List Value} (h : w.ownsRow base e size v n xs) (hg : Blk w g t cs) (hne : e ≠ t) : v.ownBlock ≠ some g := by
  rcases h.2 with ⟨rfl, _⟩ | ⟨g', cap, cur, rfl, _, hh, _⟩
  · simp [Value.ownBlock]
  · intro he
    have : g' = g := by simpa [Value.ownBlock] using he
    subst this
    exact Blk.ne_ (t := e) hh hg hne rfl
end

def sl (g n : Nat) : Value := .slice (some ⟨g, 0, none⟩) n n
/-- Block g, of elements of type t, is just these numbers. -/
def WB (κ : IntKind) (t : TypeId) (w : World) (g : Nat) (xs : List Int) : Prop := Blk w g t (ks κ xs).toArray
section
variable {κ : IntKind} {t : TypeId}
theorem own_wb {w : World} {B g n : Nat} {xs : List Int} (h : w.ownsRow B t 1 (sl g n) n (ks κ xs)) : WB κ t w g xs := by
  rcases h.2 with ⟨h', _⟩ | ⟨g', cap', cur, h', hb, hg, hnc, hcm, hcs, htake⟩
  · simp [sl] at h'
  · simp only [sl, Value.slice.injEq, Option.some.injEq, Addr.mk.injEq, and_true, true_and] at h'
    obtain ⟨rfl, rfl⟩ := h'
    have : cur = (ks κ xs).toArray := by
      apply Array.ext'
      rw [← htake, List.take_of_length_le (by simp [hcs])]
    unfold WB Blk
    rw [hg, this]
theorem WB.cell {w : World} {g : Nat} {xs : List Int} (h : WB κ t w g xs) (j : Nat) (hj : j < xs.length) : w.cell? ⟨g, j, none⟩ = some (.int κ (xs.getD j 0)) := by
  rw [Blk.cell h]
  simpa using ks_get κ xs j hj
theorem WB.set_ {w : World} {g : Nat} {xs : List Int} (h : WB κ t w g xs) (j : Nat) (u : Int) : WB κ t (w.setCell ⟨g, j, none⟩ (.int κ u)) g (xs.set j u) := by
  have := Blk.set_ h j (.int κ u)
  unfold WB ks at *
  rw [List.map_set]
  simpa using this
theorem WB.reads {w : World} {g : Nat} {xs : List Int} (h : WB κ t w g xs) (B : Nat) (hB : g < B) (o n : Nat) (hn : o + n ≤ xs.length) : Reads w B 1 (some ⟨g, o, none⟩) n (ks κ ((xs.drop o).take n)) := by
  refine ⟨by simp [ks]; omega, fun _ => ⟨_, rfl, hB, fun j u hu => ?_⟩⟩
  have hl : j < ((xs.drop o).take n).length := by
    have := (List.getElem?_eq_some_iff.1 hu).1
    simpa [ks] using this
  have e : (⟨g, o, none⟩ : Addr).add j = ⟨g, o + j, none⟩ := by unfold Addr.add; split <;> simp_all
  rw [e, h.cell (o + j) (by simp at hl; omega)]
  unfold ks at hu
  rw [List.getElem?_map, List.getElem?_eq_getElem hl] at hu
  injection hu with hu
  rw [← hu, List.getElem_take, List.getElem_drop, List.getD_eq_getElem?_getD, List.getElem?_eq_getElem (by simp at hl; omega)]; rfl
def room (xs : List Int) (v : Int) (k : Nat) : List Int := xs ++ (List.replicate k v ++ List.replicate (80 - k) 0)
theorem room_len (xs : List Int) (v : Int) (k : Nat) (h : k ≤ 80) : (room xs v k).length = xs.length + 80 := by simp [room]; omega
theorem room_next (xs : List Int) (v : Int) (k : Nat) (h : k < 80) : (room xs v k).set (xs.length + k) v = room xs v (k + 1) := by
  unfold room
  have e : List.replicate (80 - k) (0 : Int) = 0 :: List.replicate (80 - (k + 1)) 0 := by
    rw [show 80 - k = (80 - (k + 1)) + 1 from by omega]; rfl
  rw [e]
  apply List.ext_getElem
  · simp; omega
  · intro i h1 h2
    rw [List.getElem_set]
    simp only [List.getElem_append, List.length_replicate, List.getElem_replicate, List.getElem_cons]
    split <;> split <;> (try split) <;> (try split) <;> (try split) <;> first | rfl | omega
theorem room_end (xs : List Int) (v : Int) : room xs v 80 = xs ++ List.replicate 80 v := by simp [room]
def RInv (κ : IntKind) (t : TypeId) (xs : List Int) (v : Int) (w : World) (k : Nat) (wr : World) : Prop := WB κ t wr w.heap.size (room xs v k) ∧ Below w.heap.size w wr
theorem RInv.next {xs : List Int} {v : Int} {w wr : World} {k : Nat} (h : RInv κ t xs v w k wr) (hk : k < 80) : RInv κ t xs v w (k + 1) (wr.setCell ⟨w.heap.size, xs.length + k, none⟩ (.int κ v)) := by
  refine ⟨?_, h.2.setCell (by simp) _⟩
  rw [← room_next xs v k hk]
  exact h.1.set_ _ _
def RoomyPost (κ : IntKind) (t : TypeId) (xs : List Int) (v : Int) (w : World) (e : Ending) (w' : World) : Prop := e = .returned (sl w.heap.size (xs.length + 80)) ∧ WB κ t w' w.heap.size (xs ++ List.replicate 80 v) ∧ Below w.heap.size w w'
theorem splice0 (xs : List Int) (n : Nat) (h : xs.length = n) (v : Int) : splice (ks κ (List.replicate (n + 80) 0)) 0 (ks κ xs) = ks κ (room xs v 0) := by
  unfold splice room ks
  simp [h]
theorem eqB_self (xs : List Int) : eqB xs xs = true := by unfold eqB; simp
theorem end_get (xs : List Int) (v : Int) (k : Nat) (h : k < 80) : (xs ++ List.replicate 80 v).getD (xs.length + k) 0 = v := by
  rw [List.getD_eq_getElem?_getD, List.getElem?_append_right (by omega), Nat.add_sub_cancel_left, List.getElem?_replicate, if_pos h]; rfl
theorem WB.below {w w' : World} {g B : Nat} {xs : List Int} (h : WB κ t w g xs) (hb : Below B w w') (hg : g < B) : WB κ t w' g xs := Blk.below h hb hg
theorem room_reads {w : World} {g n : Nat} {xs : List Int} {v : Int} (hf : WB κ t w g (xs ++ List.replicate 80 v)) (hg : g < w.heap.size) (hl : xs.length = n) : Reads w w.heap.size 1 (some ⟨g, 0, none⟩) n (ks κ xs) := by
  have := hf.reads w.heap.size hg 0 n (by simp [hl])
  rw [List.drop_zero, List.take_append_of_le_length (by rw [hl]; omega), List.take_of_length_le (by rw [hl]; omega)] at this
  exact this
theorem Reads.on {w w' : World} {A : Option Addr} {n : Nat} {xs : List Int} (h : Reads w w.heap.size 1 A n (ks κ xs)) (hb : Below w.heap.size w w') : Reads w' w'.heap.size 1 A n (ks κ xs) := (h.below hb).more hb.size
theorem WB.on {w w' : World} {g : Nat} {xs : List Int} (h : WB κ t w g xs) (hb : Below w.heap.size w w') : WB κ t w' g xs := h.below hb (Blk.lt h)
end
theorem after {a b c : World} (h : Below a.heap.size a b) (k : Below b.heap.size b c) : Below a.heap.size a c := h.trans (k.mono h.size)
theorem infoI : (Try.prog.info? 3).map (fun i => (i.zero, i.size, i.bytes)) = some (some (.int .i64 0), 1, 8) := by kernel_rfl
theorem infoB : (Try.prog.info? 5).map (fun i => (i.zero, i.size, i.bytes)) = some (some (.int .u8 0), 1, 1) := by kernel_rfl
theorem size3 : (Try.prog.info? 3).map (·.size) = some 1 := by kernel_rfl
theorem size5 : (Try.prog.info? 5).map (·.size) = some 1 := by kernel_rfl
set_option maxHeartbeats 1600000 in
theorem roomy_i (A : Option Addr) (n c : Nat) (xs : List Int) (v : Int) (w : World) (hx : Reads w w.heap.size 1 A n (ks .i64 xs)) (hn : n ≤ 1000) :
    Calls Try.prog 22 #[.slice A n c, .int .i64 v] w (RoomyPost .i64 3 xs v w) := by
  have LX : Hid (xs.length = n) := hx.kl
  obtain ⟨i0, hi0, hz0, hz1, hz2⟩ := info_parts infoI
  go_enter Try.func22, Try.ntmps22
  go_wp2_with (first
    | (refine wpList_make_full _ rfl (.tmp 9) (.tmp 9) 28 rfl w.heap.size 3 i0 (.int .i64 0) 1 Try.underlying28 hi0 hz0 hz1 .i64 .i64 _ _ (n + 80) rfl rfl (by simp) (by simp) (by rw [hz2]; omega) (by unfold maxLen; omega) (Nat.le_refl _) ?_
       intro w1 hown hg1
       rw [zeros_k] at hown
       have hwb := own_wb hown
       have hb1 : Below w.heap.size w w1 := (Below.refl _ _).grown hg1 (Nat.le_refl _) (by simp)
       have hx1 := hx.below hb1
       clear hown hg1)
    | (refine wpList_copy_splice rfl (.tmp 11) (.tmp 12) 28 28 rfl 3 Try.underlying28 size3 (some ⟨w.heap.size, 0, none⟩) A (n + 80) (n + 80) n c rfl rfl w.heap.size 0 (ks .i64 (List.replicate (n + 80) 0)) 3 hwb (ks .i64 xs) (by rw [ks_len, LX.out]; exact (Nat.min_eq_left (by omega)).symm) (fun hp => ⟨rfl, by
         obtain ⟨ad, e, _, hc⟩ := hx1.2 (by rw [ks_len, LX.out] at hp; exact hp)
         exact ⟨ad, e, hc⟩⟩) (by simp [ks_len, LX.out]) (ks_one .i64 xs) w.heap.size w hb1 (Nat.le_refl _) ?_
       intro w2 hw2 hb2
       rw [splice0 xs n LX.out 0] at hw2)
    | fail)
  have HI : RInv .i64 3 xs v w 0 w2 := ⟨hw2.out, hb2⟩
  clear hw2 hb2 hx1 hb1 hwb
  go_loopw [6] (fun i wr => ∃ k : Nat, k ≤ 80 ∧ i = .int .i64 ((n + k : Nat)) ∧ RInv .i64 3 xs v w k wr) (fun i _ => n + 80 - (intOf i).toNat)
  case atStart => exact ⟨0, Nat.zero_le _, by simp, HI⟩
  case round =>
    obtain ⟨k, hk, rfl, HW⟩ := hrel
    by_cases hlt : k < 80
    · have hcell := HW.1.cell (n + k) (by rw [room_len _ _ _ hk, LX.out]; omega)
      have hfr := Blk.frozen HW.1 (n + k)
      go_wp2
      go_roundw
      case rel => exact ⟨k + 1, by omega, by simp; omega, by have := HW.next hlt; rw [LX.out] at this; exact this⟩
      case measure => simp only [intOf]; omega
    · have hkk : k = 80 := by omega
      have HF : RInv .i64 3 xs v w 80 wr := hkk ▸ HW
      have hnl : ¬ ((n : Int) + k < (n : Int) + 80) := by omega
      clear HW hkk
      go_wp2
      go_ret
      exact ⟨by unfold sl; rw [LX.out]; rfl, by have := HF.1; rw [room_end] at this; exact this, HF.2⟩
set_option maxHeartbeats 1600000 in
theorem intact_i (A : Option Addr) (n c g : Nat) (xs : List Int) (v : Int) (w : World) (hx : Reads w w.heap.size 1 A n (ks .i64 xs)) (hg : g < w.heap.size) (hf : WB .i64 3 w g (xs ++ List.replicate 80 v)) (hn : n ≤ 1000) :
    Calls Try.prog 24 #[.slice (some ⟨g, 0, none⟩) (n + 80) (n + 80), .slice A n c, .int .i64 v] w fun e w' => e = .returned (.bool true) ∧ Below w.heap.size w w' := by
  have LX : Hid (xs.length = n) := hx.kl
  have hr : Reads w w.heap.size 1 (some ⟨g, 0, none⟩) n (ks .i64 xs) := by
    have := hf.reads w.heap.size hg 0 n (by simp [LX.out])
    rw [List.drop_zero, List.take_append_of_le_length (by rw [LX.out]; omega), List.take_of_length_le (by rw [LX.out]; omega)] at this
    exact this
  go_enter Try.func24, Try.ntmps24
  go_wp2_with (first
    | (go_at_call 17; refine (same_i w.heap.size (some ⟨g, 0, none⟩) A n n (n + 80) c xs xs _ hr hx (by omega) (by omega)).mono ?_; rintro e w1 ⟨rfl, hb1⟩; rw [eqB_self])
    | fail)
  go_loopw [6, 7] (fun _ i wr => ∃ k : Nat, k ≤ 80 ∧ i = .int .i64 ((n + k : Nat)) ∧ Below w.heap.size w wr) (fun _ i _ => n + 80 - (intOf i).toNat)
  case atStart => exact ⟨0, Nat.zero_le _, by simp, hb1⟩
  case round =>
    obtain ⟨k, hk, rfl, hbl⟩ := hrel
    by_cases hlt : k < 80
    · have hcell := (hf.below hbl hg).cell (n + k) (by simp [LX.out]; omega)
      have he := end_get xs v k hlt
      rw [LX.out] at he
      rw [he] at hcell
      clear he
      go_wp2
      go_roundw
      case rel => exact ⟨k + 1, by omega, by simp; omega, hbl⟩
      case measure => simp only [intOf]; omega
    · have hnl : ¬ ((n : Int) + k < (n : Int) + 80) := by omega
      go_wp2
      go_ret
      exact ⟨rfl, hbl⟩
end Go.Proofs.Ytokjeglhmmijfaa
