/-
  Right terms, and where a list's first entry stands that isn't less; no condition beyond lengths that fit an int.
-/
import Derived.Test.YtbfmklaakjepaaaDoorShelf
import Derived.Test.YtbfmklaakjepaaaDoorSh1
import Derived.Lib.Hide
import Derived.Deep.RegionHeld3
import Derived.WalkKit
import Derived.BigRegion
import Derived.LoopTactic
import Derived.Laws.Strings
import Derived.Laws.Concat
import Derived.Laws.Small
import Derived.Laws.Cover1
import Derived.Laws.Slices
namespace Go.Proofs.YtbfmklaakjepaaaDoor
open Go.RowKit Go.WideShapes Go.ChangeShapes
set_option linter.all false
def nz (l : List UInt8) : Bool := l.all (· != 0)
def rightL (l : List UInt8) : Bool := decide (1 ≤ l.length) && decide (l.length ≤ 12) && nz l
theorem indexByte_nz : ∀ l : List UInt8, decide (0 ≤ Lib.indexByte l 0) = !nz l
  | [] => rfl
  | b :: l => by
    have ih := indexByte_nz l
    unfold Lib.indexByte
    by_cases hb : b = 0
    · subst hb; simp [nz]
    · have h1 : (b == 0) = false := by simpa using hb
      have hge := Lib.indexByte_ge l 0
      rw [h1]
      simp only [Bool.false_eq_true, if_false]
      have : nz (b :: l) = nz l := by simp [nz, hb]
      rw [this, ← ih]
      by_cases hl : Lib.indexByte l 0 = -1
      · simp [hl]
      · have : (Lib.indexByte l 0 == -1) = false := by simpa using hl
        rw [this]
        simp only [Bool.false_eq_true, if_false, decide_eq_decide]
        omega
theorem len_list (s : ByteArray) : s.data.toList.length = s.size := rfl
theorem get_list (s : ByteArray) (k : Nat) (h : k < s.size) : s.data.toList[k]'(by rw [len_list]; exact h) = s[k] := rfl
theorem right_any (s : ByteArray) (w : World) : Calls Tryd.prog 25 #[.string s] w fun e w' => e = .returned (.bool (rightL s.data.toList)) ∧ w' = w := by
  go_enter Tryd.func25, Tryd.ntmps25
  go_wp2_with (first
    | (go_at_call 30; refine (strings_Contains_one _ _ _).mono ?_; rintro e w' ⟨rfl, rfl⟩)
    | go_in)
  · have h1 : (1 : Int) ≤ s.size := by assumption
    have h2 : (s.size : Int) ≤ 12 := by assumption
    go_ret; refine ⟨?_, rfl⟩
    simp only [rightL, len_list, indexByte_nz, Bool.not_not]
    rw [decide_eq_true (by omega : 1 ≤ s.size), decide_eq_true (by omega : s.size ≤ 12)]; rfl
  · have h2 : (12 : Int) < s.size := by assumption
    go_ret; refine ⟨?_, rfl⟩
    simp only [rightL, len_list]
    rw [decide_eq_false (by omega : ¬ s.size ≤ 12)]; simp
  · have h2 : (s.size : Int) < 1 := by assumption
    go_ret; refine ⟨?_, rfl⟩
    simp only [rightL, len_list]
    rw [decide_eq_false (by omega : ¬ 1 ≤ s.size)]; simp
/-- How many entries there are ahead of the first whose text isn't less. -/
def seekN (t : ByteArray) : List En → Nat
  | [] => 0
  | e :: l => if lt e.1 t = true then seekN t l + 1 else 0
theorem seek_is (t : ByteArray) : ∀ (l : List En) (k : Nat), k ≤ l.length → (∀ i, i < k → lt (l.getD i d0).1 t = true) → (k < l.length → lt (l.getD k d0).1 t = false) → seekN t l = k
  | [], k, hk, _, _ => by simp at hk; subst hk; rfl
  | e :: l, 0, _, _, h => by
    have := h (by simp)
    simp only [List.getD_cons_zero] at this
    unfold seekN
    rw [this]; rfl
  | e :: l, k + 1, hk, h, g => by
    have h0 := h 0 (by omega)
    simp only [List.getD_cons_zero] at h0
    unfold seekN
    rw [if_pos h0, seek_is t l k (by simpa using hk) (fun i hi => by simpa using h (i + 1) (by omega)) (fun q => by simpa using g (by simpa using q))]
set_option maxRecDepth 100000 in
set_option maxHeartbeats 1600000 in
theorem seek_any (A : Option Addr) (n c : Nat) (es : List En) (t : ByteArray) (w : World) (hx : Reads w w.heap.size 2 A n (rowE es)) (hn : n ≤ 9223372036854775807) :
    Calls Tryd.prog 12 #[.slice A n c, .string t] w fun e w' => e = .returned (.int .i64 (seekN t es)) ∧ Below w.heap.size w w' := by
  have LX : Hid (es.length = n) := Lib.hid (ents_len hx)
  go_enter Tryd.func12, Tryd.ntmps12
  go_wp2
  go_loopw [9] (fun i wr => ∃ k : Nat, k ≤ n ∧ i = .int .i64 k ∧ Hid (∀ i, i < k → lt (es.getD i d0).1 t = true) ∧ Below w.heap.size w wr) (fun i _ => n - (intOf i).toNat)
  case atStart => exact ⟨0, Nat.zero_le _, rfl, Lib.hid (fun i hi => absurd hi (by omega)), Below.refl _ _⟩
  case round =>
    obtain ⟨k, hk, rfl, HT, hbl⟩ := hrel
    by_cases hlt : k < n
    · obtain ⟨ad, rfl, hb, h0, h1⟩ := ents_get hx hlt
      have g0 := (hbl.cell (p := ad.add (k * 2)) (by rw [block_of_add]; exact hb)).trans h0
      have g1 := (hbl.cell (p := ⟨(ad.add (k * 2)).block, (ad.add (k * 2)).off + 1, none⟩) (by show (ad.add (k * 2)).block < _; rw [block_of_add]; exact hb)).trans h1
      clear h0 h1
      have HB := Lib.hid hbl
      obtain ⟨x, hxx⟩ : ∃ x, x = (es.getD k d0).1 := ⟨_, rfl⟩
      obtain ⟨v, hvv⟩ : ∃ v, v = (es.getD k d0).2 := ⟨_, rfl⟩
      rw [← hxx] at g0
      rw [← hvv] at g1
      have HX := Lib.hid hxx
      clear hxx hvv hbl
      have HBW : Hid (Below w.heap.size w (wr.alloc (.cells #[.string x, .int .i64 v] 23))) := Lib.hid (HB.out.alloc HB.out.size _)
      cases hxt : lt x t with
      | true =>
        have HN : Hid (∀ i, i < k + 1 → lt (es.getD i d0).1 t = true) := Lib.hid (fun i hi => by
          rcases Nat.lt_or_ge i k with q | q
          · exact HT.out i q
          · obtain rfl : i = k := by omega
            rw [← HX.out]; exact hxt)
        have hxt' : Op.bytesLess x.toList t.toList = true := hxt
        clear hxt
        go_wp2
        go_roundw
        case rel => exact ⟨k + 1, by omega, by go_num, HN, HBW.out⟩
        case measure => simp only [intOf]; omega
      | false =>
        have HEQ : Hid (seekN t es = k) := Lib.hid (seek_is t es k (by rw [LX.out]; omega) HT.out (fun _ => by rw [← HX.out]; exact hxt))
        have hxt' : Op.bytesLess x.toList t.toList = false := hxt
        clear hxt
        go_wp2
        go_ret
        exact ⟨by rw [HEQ.out]; rfl, HBW.out⟩
    · obtain rfl : n = k := by omega
      have HEQ : Hid (seekN t es = n) := Lib.hid (seek_is t es n (by rw [LX.out]; exact Nat.le_refl _) HT.out (fun q => absurd q (by rw [LX.out]; omega)))
      go_wp2
      go_ret
      exact ⟨by rw [HEQ.out]; rfl, hbl⟩
end Go.Proofs.YtbfmklaakjepaaaDoor
