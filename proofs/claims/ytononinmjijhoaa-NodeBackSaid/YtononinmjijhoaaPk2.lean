/-
  What Words answers.
-/
import Derived.Test.YtononinmjijhoaaPk1
import Derived.BigFrame
import Derived.OwnWalk
import Derived.Laws.OwnMore
import Derived.Laws.Strings
import Derived.IntWalk
import Derived.StillTailTactics
namespace Go.Proofs.Ytononinmjijhoaa
open Go.RowKit Go.WideShapes Go.ChangeShapes
set_option linter.all false
theorem info24 : (Try.prog.info? 22).map (fun i => (i.zero, i.size, i.bytes)) = some (some (.int .u64 0), 1, 8) := by kernel_rfl
def cnt (n : Nat) : Nat := (n + 7) / 8
theorem zeros_u64 (n : Nat) : (madeCells (Value.int .u64 0).cells (n * 1)).toList = u64s (List.replicate n 0) := by
  unfold madeCells u64s
  apply List.ext_getElem <;> simp [Value.cells, Nat.mod_one]
/-- A word with one byte more. -/
def orW (x : Int) (c : UInt8) (j : Nat) : Int := bits .or .u64 x (IntKind.u64.wrap (IntKind.u64.wrap (c.toNat : Int) * 2 ^ (8 * j)))
/-- The words behind k bytes. -/
def wd (s : ByteArray) (c : Nat) : Nat → List Int
  | 0 => List.replicate c 0
  | k + 1 => if h : k < s.size then (wd s c k).set (k / 8) (orW ((wd s c k)[k / 8]?.getD 0) s[k] (k % 8)) else wd s c k
theorem wd_len (s : ByteArray) (c : Nat) : ∀ k, (wd s c k).length = c
  | 0 => List.length_replicate
  | k + 1 => by
    unfold wd
    split
    · rw [List.length_set, wd_len s c k]
    · exact wd_len s c k
theorem wd_succ (s : ByteArray) (c k : Nat) (h : k < s.size) : wd s c (k + 1) = (wd s c k).set (k / 8) (orW ((wd s c k)[k / 8]?.getD 0) s[k] (k % 8)) := by
  rw [wd, dif_pos h]
def sl (g n : Nat) : Value := .slice (some ⟨g, 0, none⟩) n n
def WordsPost (s : ByteArray) (w : World) (e : Ending) (w' : World) : Prop :=
  e = .returned (sl w.heap.size (cnt s.size)) ∧ w'.ownsRow w.heap.size 22 1 (sl w.heap.size (cnt s.size)) (cnt s.size) (u64s (wd s (cnt s.size) s.size)) ∧ Below w.heap.size w w'
theorem u64s_get (xs : List Int) (j : Nat) (h : j < xs.length) : (u64s xs)[j]? = some (.int .u64 (xs.getD j 0)) := by
  unfold u64s
  rw [List.getElem?_map, List.getElem?_eq_getElem h, List.getD_eq_getElem?_getD, List.getElem?_eq_getElem h]; rfl
theorem own_cell {w : World} {B g n : Nat} {xs : List Int} (h : w.ownsRow B 22 1 (sl g n) n (u64s xs)) (hl : xs.length = n) (j : Nat) (hj : j < n) : w.cell? ⟨g, j, none⟩ = some (.int .u64 (xs.getD j 0)) := by
  rw [World.ownsRow.cellAt h _ (by omega)]; exact u64s_get _ _ (by omega)
theorem own_set {w : World} {B g n : Nat} {xs : List Int} (h : w.ownsRow B 22 1 (sl g n) n (u64s xs)) (j : Nat) (u : Int) : (w.setCell ⟨g, j, none⟩ (.int .u64 u)).ownsRow B 22 1 (sl g n) n (u64s (xs.set j u)) := by
  have := (World.ownsRow.stored h j (.int .u64 u)).1
  unfold u64s at this ⊢
  rw [List.map_set]; exact this
/-- What the loop of Words keeps. -/
def WInv (s : ByteArray) (w : World) (k : Nat) (wr : World) : Prop :=
  wr.ownsRow w.heap.size 22 1 (sl w.heap.size (cnt s.size)) (cnt s.size) (u64s (wd s (cnt s.size) k)) ∧ Below w.heap.size w wr
theorem WInv.drew {s : ByteArray} {w wr : World} {k : Nat} (h : WInv s w k wr) : WInv s w k wr.drew := ⟨h.1, h.2.drew⟩
theorem WInv.next {s : ByteArray} {w wr : World} {k : Nat} (h : WInv s w k wr) (hk : k < s.size) (hs : w.heap.size ≤ wr.heap.size) :
    WInv s w (k + 1) (wr.setCell ⟨w.heap.size, k / 8, none⟩ (.int .u64 (orW ((wd s (cnt s.size) k)[k / 8]?.getD 0) s[k] (k % 8)))) := by
  refine ⟨?_, h.2.setCell (by simp) _⟩
  rw [wd_succ s _ k hk]
  exact own_set h.1 _ _
theorem shift_any (k : Nat) (w : World) (h : k ≤ 100000) : Calls Try.prog 54 #[.int .i64 k] w fun e w' => e = .returned (.int .i64 ((8 * (k % 8) : Nat))) ∧ w = w' := by
  go_enter Try.func54, Try.ntmps54
  go_wp2
  go_ret
  exact ⟨by simp; omega, rfl⟩
theorem count_any (k : Nat) (w : World) (h : k ≤ 1000000000000) : Calls Try.prog 53 #[.int .i64 k] w fun e w' => e = .returned (.int .i64 (cnt k : Nat)) ∧ w = w' := by
  go_enter Try.func53, Try.ntmps53
  go_wp2
  all_goals go_ret
  all_goals (refine ⟨?_, rfl⟩; unfold cnt; simp; omega)
set_option maxHeartbeats 800000 in
theorem pwords_any (s : ByteArray) (w : World) (hs : s.size ≤ 1000) : Calls Try.prog 39 #[.string s] w (WordsPost s w) := by
  obtain ⟨i0, hi0, hz0, hz1, hz2⟩ := info_parts info24
  go_enter Try.func39, Try.ntmps39
  go_wp2_with (first
    | (go_at_call 53; refine (count_any _ _ (by omega)).mono ?_; rintro e w' ⟨rfl, rfl⟩)
    | (refine wpList_make_full _ rfl (.tmp 7) (.tmp 7) 48 rfl w.heap.size 22 i0 (.int .u64 0) 1 Try.underlying48 hi0 hz0 hz1 .i64 .i64 _ _ (cnt s.size) rfl rfl rfl rfl (by rw [hz2]; unfold cnt; omega) (by unfold cnt maxLen; omega) (Nat.le_refl _) ?_
       intro w1 hown hg1
       rw [zeros_u64] at hown)
    | fail)
  have HI : WInv s w 0 w1 := ⟨hown, (Below.refl _ _).grown hg1 (Nat.le_refl _) (by simp)⟩
  clear hown hg1
  go_loopw [4, 11] (fun _ i wr => ∃ k : Nat, k ≤ s.size ∧ i = .int .i64 k ∧ WInv s w k wr) (fun _ i _ => s.size - (intOf i).toNat)
  case atStart => exact ⟨0, Nat.zero_le _, rfl, HI⟩
  case round =>
    obtain ⟨k, hk, rfl, HW⟩ := hrel
    by_cases hlt : k < s.size
    · have hk8 : k / 8 < cnt s.size := by unfold cnt; omega
      have hcell : wr.cell? ⟨w.heap.size, k / 8, none⟩ = some (.int .u64 ((wd s (cnt s.size) k).getD (k / 8) 0)) := own_cell HW.1 (wd_len _ _ _) _ hk8
      have hfr : wr.frozen? ⟨w.heap.size, k / 8, none⟩ = false := World.ownsRow.frozenAt HW.1 _
      have hi1 : (k : Int) / 8 < (cnt s.size : Int) := by omega
      have hi2 : (0 : Int) ≤ (k : Int) / 8 := by omega
      have hi3 : (k : Int) < s.size := by omega
      have hi4 : ((k : Int) / 8).toNat = k / 8 := by omega
      have W1 : IntKind.i64.wrap ((k : Int) / 8) = (k : Int) / 8 := IntWalk.i64_in _ (by omega)
      go_wp2
      refine wp_region_still_tail 14 (by kernel_rfl) (by kernel_rfl) ?_
      simp only [List.take_succ_cons, List.take_zero, List.drop_succ_cons, List.drop_zero]
      repeat still_step
      refine wpStill_step (fun K hK => ?_)
      go_simp
      have hj1 : (0 : Int) ≤ 8 * ((k : Int) % 8) := by omega
      have hj2 : 8 * ((k : Int) % 8) < 64 := by omega
      have hj3 : (8 * ((k : Int) % 8)).toNat = 8 * (k % 8) := by omega
      have hj4 : ((8 * (k % 8) : Nat) : Int) = 8 * ((k : Int) % 8) := by omega
      refine ⟨_, (shift_any k _ (by omega)).mono (fun e w'' h => ⟨h.1, h.2.symm⟩), hK _ ?_⟩
      clear hK K
      rw [hj4]
      repeat still_step
      refine wpStill_nil ?_
      change wpList _ _ _ _ _ wr.drew
      generalize hw2 : wr.drew = w2
      have HW2 : WInv s w k w2 := hw2 ▸ HW.drew
      have hfr2 : w2.frozen? ⟨w.heap.size, k / 8, none⟩ = false := World.ownsRow.frozenAt HW2.1 _
      have hcell2 : w2.cell? ⟨w.heap.size, k / 8, none⟩ = some (.int .u64 ((wd s (cnt s.size) k).getD (k / 8) 0)) := own_cell HW2.1 (wd_len _ _ _) _ hk8
      clear hw2 W1
      go_wp2
      go_roundw
      case rel => exact ⟨k + 1, by omega, by go_num, HW2.next hlt HW2.2.size⟩
      case measure => simp only [intOf]; omega
    · have hkk : k = s.size := by omega
      have HF : WInv s w s.size wr := hkk ▸ HW
      clear HW hkk
      go_wp2
      go_ret
      exact ⟨rfl, HF.1, HF.2⟩
end Go.Proofs.Ytononinmjijhoaa
