/-
  What Bytes answers; conditions: lengths.
-/
import Derived.Test.YtononinmjijhoaaPk2
import Derived.Laws.BytesArg
namespace Go.Proofs.Ytononinmjijhoaa
open Go.RowKit Go.WideShapes Go.ChangeShapes
set_option linter.all false
def zw (xs : List Int) (m i : Nat) : Int := if i = m / 8 then xs[i]?.getD 0 / 2 ^ (8 * (m % 8)) else xs[i]?.getD 0
def zfB (xs : List Int) (m : Nat) : Bool := (List.range xs.length).all fun i => decide (i < m / 8) || zw xs m i == 0
theorem zfB_true {xs : List Int} {m : Nat} (h : ∀ i, m / 8 ≤ i → i < xs.length → zw xs m i = 0) : Value.bool (zfB xs m) = .bool true := by
  have : zfB xs m = true := by
    unfold zfB
    rw [List.all_eq_true]
    intro i hi
    rw [List.mem_range] at hi
    by_cases hm : i < m / 8
    · simp [hm]
    · simp [h i (by omega) hi]
  rw [this]
theorem zfB_false {xs : List Int} {m i : Nat} (h1 : m / 8 ≤ i) (h2 : i < xs.length) (h : zw xs m i ≠ 0) : Value.bool (zfB xs m) = .bool false := by
  have : zfB xs m = false := by
    unfold zfB
    rw [List.all_eq_false]
    refine ⟨i, List.mem_range.2 h2, ?_⟩
    simp [h]; omega
  rw [this]
set_option maxHeartbeats 800000 in
theorem zero_any (B : Nat) (A : Option Addr) (n c m : Nat) (xs : List Int) (w : World) (hx : Reads w B 1 A n (u64s xs)) (hn : n ≤ 1000) (hm : m ≤ 8 * n) :
    Calls Try.prog 62 #[.slice A n c, .int .i64 m] w fun e w' => e = .returned (.bool (zfB xs m)) ∧ w = w' := by
  have LX : Hid (xs.length = n) := hx.u64
  go_enter Try.func62, Try.ntmps62
  go_wp2
  go_loop [5, 6] (fun i _ => ∃ k : Nat, m / 8 ≤ k ∧ k ≤ n ∧ i = .int .i64 k ∧ Hid (∀ i, m / 8 ≤ i → i < k → zw xs m i = 0)) (fun i _ => n - (intOf i).toNat)
  case atStart => exact ⟨m / 8, Nat.le_refl _, by omega, by simp, fun i h1 h2 => by omega⟩
  case round =>
    obtain ⟨k, hk1, hk, rfl, HZ⟩ := hrel
    by_cases hlt : k < n
    · obtain ⟨ad, rfl, h1⟩ := hx.u64at hlt
      by_cases hq : k = m / 8
      · subst hq
        go_wp2_with (first | (go_at_call 54; refine (shift_any m _ (by omega)).mono ?_; rintro e w' ⟨rfl, rfl⟩) | fail)
        · have hz : ((xs[m / 8]?.getD 0 / 2 ^ (8 * (m % 8)) : Int) != 0) = true := by assumption
          go_ret
          exact ⟨by rw [zfB_false (i := m / 8) (Nat.le_refl _) (by rw [LX.out]; exact hlt) (by simp [zw]; simpa using hz)]; rfl, rfl⟩
        · have hz : ((xs[m / 8]?.getD 0 / 2 ^ (8 * (m % 8)) : Int) != 0) = false := by assumption
          go_round
          case rel => exact ⟨m / 8 + 1, by omega, by omega, by go_num, fun i h1 h2 => by
            have : i = m / 8 := by omega
            subst this; simp [zw]; simpa using hz⟩
          case measure => simp only [intOf]; omega
      · have hq' : (((k : Int) == (m : Int) / 8)) = false := by simp; omega
        go_wp2
        · have hz : ((xs[k]?.getD 0 : Int) != 0) = true := by assumption
          go_ret
          exact ⟨by rw [zfB_false (i := k) hk1 (by rw [LX.out]; exact hlt) (by simp [zw, hq]; simpa using hz)]; rfl, rfl⟩
        · have hz : ((xs[k]?.getD 0 : Int) != 0) = false := by assumption
          go_round
          case rel => exact ⟨k + 1, by omega, by omega, by go_num, fun i h1 h2 => by
            by_cases e : i = k
            · subst e; simp [zw, hq]; simpa using hz
            · exact HZ.out i h1 (by omega)⟩
          case measure => simp only [intOf]; omega
    · have hkn : k = n := by omega
      have HZ' : Hid (∀ i, m / 8 ≤ i → i < xs.length → zw xs m i = 0) := fun i h1 h2 => HZ.out i h1 (by rw [LX.out] at h2; omega)
      clear hkn
      go_wp2
      go_ret
      exact ⟨by rw [zfB_true HZ'.out]; rfl, rfl⟩
theorem info5 : (Try.prog.info? 5).map (fun i => (i.zero, i.size, i.bytes)) = some (some (.int .u8 0), 1, 1) := by kernel_rfl
/-- Byte i of words. -/
def byI (xs : List Int) (i : Nat) : Int := xs[i / 8]?.getD 0 / 2 ^ (8 * (i % 8)) % 256
def u8s (xs : List Int) : List Value := xs.map (.int .u8)
def bt (xs : List Int) (n k : Nat) : List Int := (List.range n).map fun i => if i < k then byI xs i else 0
theorem zeros_u8 (n : Nat) (xs : List Int) : (madeCells (Value.int .u8 0).cells (n * 1)).toList = u8s (bt xs n 0) := by
  unfold madeCells u8s bt
  apply List.ext_getElem <;> simp [Value.cells, Nat.mod_one]
theorem bt_len (xs : List Int) (n k : Nat) : (bt xs n k).length = n := by simp [bt]
theorem bt_next (xs : List Int) (n k : Nat) (h : k < n) : (bt xs n k).set k (byI xs k) = bt xs n (k + 1) := by
  unfold bt
  apply List.ext_getElem
  · simp
  · intro i h1 h2
    rw [List.getElem_set]
    simp only [List.getElem_map, List.getElem_range]
    by_cases e : k = i
    · subst e; simp
    · rw [if_neg e]
      by_cases hl : i < k
      · rw [if_pos hl, if_pos (by omega)]
      · rw [if_neg hl, if_neg (by omega)]
/-- What the loop of Bytes keeps. -/
def BInv (xs : List Int) (m : Nat) (w : World) (k : Nat) (wr : World) : Prop :=
  wr.ownsRow w.heap.size 5 1 (sl w.heap.size m) m (u8s (bt xs m k)) ∧ Below w.heap.size w wr
theorem BInv.drew {xs : List Int} {m k : Nat} {w wr : World} (h : BInv xs m w k wr) : BInv xs m w k wr.drew := ⟨h.1, h.2.drew⟩
theorem u8s_get (xs : List Int) (j : Nat) (h : j < xs.length) : (u8s xs)[j]? = some (.int .u8 (xs.getD j 0)) := by
  unfold u8s
  rw [List.getElem?_map, List.getElem?_eq_getElem h, List.getD_eq_getElem?_getD, List.getElem?_eq_getElem h]; rfl
theorem BInv.cell {xs : List Int} {m k : Nat} {w wr : World} (h : BInv xs m w k wr) (j : Nat) (hj : j < m) : wr.cell? ⟨w.heap.size, j, none⟩ = some (.int .u8 ((bt xs m k).getD j 0)) := by
  rw [World.ownsRow.cellAt h.1 _ (by omega)]; exact u8s_get _ _ (by rw [bt_len]; exact hj)
theorem BInv.next {xs : List Int} {m k : Nat} {w wr : World} (h : BInv xs m w k wr) (hk : k < m) : BInv xs m w (k + 1) (wr.setCell ⟨w.heap.size, k, none⟩ (.int .u8 (byI xs k))) := by
  refine ⟨?_, h.2.setCell (by simp) _⟩
  have := (World.ownsRow.stored h.1 k (.int .u8 (byI xs k))).1
  rw [← bt_next xs m k hk]
  unfold u8s at this ⊢
  rw [List.map_set]; exact this
def nzB (xs : List Int) (m k : Nat) : Prop := ∀ i, m ≤ i → i < k → byI xs i = 0
def restB (xs : List Int) (m : Nat) : Bool := (List.range (8 * xs.length)).all fun i => decide (i < m) || byI xs i == 0
theorem restB_true {xs : List Int} {m : Nat} (h : nzB xs m (8 * xs.length)) : restB xs m = true := by
  unfold restB
  rw [List.all_eq_true]
  intro i hi
  rw [List.mem_range] at hi
  by_cases hm : i < m
  · simp [hm]
  · simp [h i (by omega) hi]
theorem restB_false {xs : List Int} {m i : Nat} (h1 : m ≤ i) (h2 : i < 8 * xs.length) (h : byI xs i ≠ 0) : restB xs m = false := by
  unfold restB
  rw [List.all_eq_false]
  refine ⟨i, List.mem_range.2 h2, ?_⟩
  simp [h]; omega
/-- What Bytes answers of m bytes that may be: told by whether the rest is nought. -/
def bytesV (xs : List Int) (m : Nat) (ok : Bool) : Value := if ok = true then .tuple #[.string (strOfNums (bt xs m m)), .int .i64 0] else .tuple #[.string ⟨#[]⟩, .int .i64 5]
theorem conv_any {xs : List Int} {m : Nat} {w wr : World} (h : BInv xs m w m wr) : (convert 23 9 (.slice (some ⟨w.heap.size, 0, none⟩) m m)).run Try.prog wr = .ok (.string (strOfNums (bt xs m m))) wr :=
  run_convert_bytes_arg wr 23 5 Try.underlying23 Try.underlying5 w.heap.size 0 m m (bt xs m m) (bt_len _ _ _) (fun i hi => by rw [Nat.zero_add]; exact h.cell i hi) 9 Try.underlying9
def BytesPost (xs : List Int) (m : Nat) (ok : Bool) (w : World) (e : Ending) (w' : World) : Prop := e = .returned (bytesV xs m ok) ∧ Below w.heap.size w w'
end Go.Proofs.Ytononinmjijhoaa
