/-
  What the law PackBack needs of the bytes of a text's words; no condition.
-/
import Derived.Test.YtdkokpaboipamaaPkN
import Derived.Test.YtdkokpaboipamaaPkH
namespace Go.Proofs.Ytdkokpaboipamaa
open Go.RowKit Go.WideShapes Go.ChangeShapes
set_option linter.all false
/-- Are all bytes from k on, ahead of j, noughts? -/
def ntB (s : ByteArray) (k j : Nat) : Bool := (List.range j).all fun i => decide (i < k) || (s.data.toList.getD i 0 == 0)
theorem ntB_self (s : ByteArray) (k : Nat) : ntB s k k = true := by
  unfold ntB
  rw [List.all_eq_true]
  intro i hi
  rw [List.mem_range] at hi
  simp [hi]
theorem list_get (s : ByteArray) (j : Nat) (h : j < s.size) : s.data.toList.getD j 0 = s[j] := by
  rw [List.getD_eq_getElem?_getD, List.getElem?_eq_getElem (by show j < s.data.toList.length; simpa using h)]; rfl
theorem ntB_succ (s : ByteArray) (k j : Nat) (hk : k ≤ j) (h : j < s.size) : ntB s k (j + 1) = (ntB s k j && (s[j] == 0)) := by
  unfold ntB
  rw [List.range_succ, List.all_append, list_get s j h |>.symm]
  simp only [List.all_cons, List.all_nil, Bool.and_true, show ¬ j < k from by omega, decide_false, Bool.false_or]
def ws (s : ByteArray) : List Int := wd s (cnt s.size) s.size
theorem ws_len (s : ByteArray) : (ws s).length = cnt s.size := wd_len _ _ _
theorem cnt_ge (n : Nat) : n ≤ 8 * cnt n := by unfold cnt; omega
theorem ws_64 (s : ByteArray) : W64 (ws s) := wd_64 s _ (cnt_ge _)
theorem ws_byte (s : ByteArray) (i : Nat) (hi : i < 8 * cnt s.size) : byI (ws s) i = if h : i < s.size then ((s[i]'h).toNat : Int) else 0 := wd_byte s _ (cnt_ge _) i hi
theorem ws_zf (s : ByteArray) (k : Nat) (hk : k ≤ s.size) : zfB (ws s) k = ntB s k s.size := by
  have hc := cnt_ge s.size
  rw [zf_rest _ _ (ws_64 s) (by rw [ws_len]; omega), Bool.eq_iff_iff]
  unfold restB ntB
  rw [List.all_eq_true, List.all_eq_true, ws_len]
  constructor
  · intro h i hi
    rw [List.mem_range] at hi
    have h1 := h i (List.mem_range.2 (by omega))
    by_cases hik : i < k
    · simp [hik]
    · simp only [hik, decide_false, Bool.false_or, beq_iff_eq] at h1 ⊢
      rw [ws_byte s i (by omega), dif_pos hi] at h1
      rw [list_get s i hi]
      have : s[i].toNat = 0 := by omega
      exact UInt8.toNat_inj.1 this
  · intro h i hi
    rw [List.mem_range] at hi
    by_cases hik : i < k
    · simp [hik]
    · simp only [hik, decide_false, Bool.false_or, beq_iff_eq]
      rw [ws_byte s i hi]
      by_cases his : i < s.size
      · rw [dif_pos his]
        have h1 := h i (List.mem_range.2 his)
        simp only [hik, decide_false, Bool.false_or, beq_iff_eq] at h1
        rw [list_get s i his] at h1
        rw [h1]; rfl
      · rw [dif_neg his]
theorem ws_zf_all (s : ByteArray) : zfB (ws s) (8 * cnt s.size) = true := by
  have hc := cnt_ge s.size
  rw [zf_rest _ _ (ws_64 s) (by rw [ws_len]; omega)]
  unfold restB
  rw [List.all_eq_true, ws_len]
  intro i hi
  rw [List.mem_range] at hi
  simp [hi]
theorem ws_str (s : ByteArray) (k : Nat) (hk : k ≤ s.size) : strOfNums (bt (ws s) k k) = s.extract 0 k := wd_str s _ (cnt_ge _) k hk
theorem ext_all (s : ByteArray) : s.extract 0 s.size = s := by
  apply ByteArray.ext; simp
/-- All bytes of a text's words. -/
def zs (s : ByteArray) : ByteArray := strOfNums (bt (ws s) (8 * cnt s.size) (8 * cnt s.size))
theorem zs_size (s : ByteArray) : (zs s).size = 8 * cnt s.size := by unfold zs; rw [strOfNums_size, bt_len]
theorem zs_head (s : ByteArray) : (zs s).extract 0 s.size = s := by
  have hc := cnt_ge s.size
  have hz := zs_size s
  apply ByteArray.ext
  apply Array.ext'
  apply List.ext_getElem
  · simp; omega
  · intro i h1 h2
    have hi : i < s.size := by simpa using h2
    have e1 : ((zs s).extract 0 s.size).data.toList[i] = (zs s).data.toList[i]'(by simp; omega) := by simp
    rw [e1]
    unfold zs
    simp only [strOfNums_data, List.getElem_map, bt, List.getElem_range]
    rw [if_pos (by omega), ws_byte s i (by omega), dif_pos hi]
    simp
    rfl
theorem cntI_cnt (n : Nat) : cntI (n : Int) = (cnt n : Int) := by
  unfold cntI cnt
  split <;> omega
theorem pbytes_all (A : Option Addr) (n c : Nat) (xs : List Int) (w : World) (hx : Reads w w.heap.size 1 A n (u64s xs)) (hn : n ≤ 1000) :
    Calls Try.prog 10 #[.slice A n c, .int .i64 (8 * (n : Int))] w (BytesPost xs (8 * n) (zfB xs (8 * n)) w) := by
  have := pbytes_any A n c (8 * n) xs w hx hn (Nat.le_refl _)
  rw [show ((8 * n : Nat) : Int) = 8 * (n : Int) from by omega] at this
  exact this
end Go.Proofs.Ytdkokpaboipamaa
