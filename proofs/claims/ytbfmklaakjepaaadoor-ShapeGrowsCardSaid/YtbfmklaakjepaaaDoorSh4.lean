/-
  The law ShapeSeeks at any list of entries, any text: the walk; no condition.
-/
import Derived.Test.YtbfmklaakjepaaaDoorSh3
import Derived.Test.YtbfmklaakjepaaaDoorRuns
namespace Go.Proofs.YtbfmklaakjepaaaDoor
open Go.RowKit Go.WideShapes Go.ChangeShapes
set_option linter.all false
theorem seek_le (t : ByteArray) : ∀ l : List En, seekN t l ≤ l.length
  | [] => Nat.le_refl _
  | e :: l => by
    unfold seekN
    split
    · have := seek_le t l; simp only [List.length_cons]; omega
    · exact Nat.zero_le _
theorem seek_nil : ∀ l : List En, seekN ⟨#[]⟩ l = 0
  | [] => rfl
  | e :: l => by unfold seekN; rw [if_neg (by rw [lt_nil]; simp)]
theorem seek_lt (t : ByteArray) : ∀ (l : List En) (i : Nat), i < seekN t l → lt (l.getD i d0).1 t = true
  | [], i, h => by simp [seekN] at h
  | e :: l, i, h => by
    unfold seekN at h
    split at h
    · rename_i h0
      cases i with
      | zero => exact h0
      | succ i => simpa using seek_lt t l i (by omega)
    · omega
theorem seek_at (t : ByteArray) : ∀ (l : List En), seekN t l < l.length → lt (l.getD (seekN t l) d0).1 t = false
  | [], h => by simp at h
  | e :: l, h => by
    unfold seekN at h ⊢
    split
    · rename_i h0
      rw [if_pos h0] at h
      simpa using seek_at t l (by simpa using h)
    · rename_i h0
      simpa using h0
theorem ok_step {es : List En} (h : OKE es) {i : Nat} (hi : i + 1 < es.length) : lt (es.getD i d0).1 (es.getD (i + 1) d0).1 = true := (h (i + 1) hi).2 (by omega)
theorem ok_far {es : List En} (h : OKE es) {i : Nat} : ∀ d : Nat, i + d + 1 < es.length → lt (es.getD i d0).1 (es.getD (i + d + 1) d0).1 = true
  | 0, hd => ok_step h hd
  | d + 1, hd => lt_trans (ok_far h d (by omega)) (ok_step h (i := i + d + 1) hd)
theorem ok_lt {es : List En} (h : OKE es) {i j : Nat} (hij : i < j) (hj : j < es.length) : lt (es.getD i d0).1 (es.getD j d0).1 = true := by
  have := ok_far h (i := i) (j - i - 1) (by omega)
  rw [show i + (j - i - 1) + 1 = j from by omega] at this; exact this
theorem seek_sort {es : List En} (h : OKE es) (t : ByteArray) {i : Nat} (hi : i < es.length) : lt (es.getD i d0).1 t = decide (i < seekN t es) := by
  by_cases q : i < seekN t es
  · rw [decide_eq_true q]; exact seek_lt t es i q
  · rw [decide_eq_false q]
    have hs : seekN t es < es.length := by omega
    have h0 := seek_at t es hs
    rcases Nat.eq_or_lt_of_not_lt q with e | l
    · rw [e]; exact h0
    · cases g : lt (es.getD i d0).1 t with
      | false => rfl
      | true => rw [lt_trans (ok_lt h l hi) g] at h0; cases h0
theorem Reads.front {w : World} {B n : Nat} {A : Option Addr} {es : List En} (h : Reads w B 2 A n (rowE es)) {k : Nat} (hk : k ≤ n) : Reads w B 2 A k (rowE (es.take k)) := by
  have hl := ents_len h
  refine ⟨by rw [rowE_len, List.length_take]; omega, fun hk0 => ?_⟩
  obtain ⟨ad, e, hb, hc⟩ := h.2 (by omega)
  refine ⟨ad, e, hb, fun j u hu => hc j u ?_⟩
  rw [rowE_take, List.getElem?_take] at hu
  split at hu
  · exact hu
  · cases hu
set_option maxRecDepth 100000 in
set_option maxHeartbeats 3200000 in
theorem seeks_any (A : Option Addr) (n c : Nat) (es : List En) (t : ByteArray) (w : World) (hx : Reads w w.heap.size 2 A n (rowE es)) (hT : Texts es) (hnc : n ≤ c) (hc : c ≤ maxLen) :
    Calls Tryd.prog 4 #[.slice A n c, .string t] w fun e w' => e = .returned (.bool true) ∧ Below w.heap.size w w' := by
  have hc9 : c ≤ 9223372036854775807 := Nat.le_trans hc (by decide)
  clear hc hT
  have F1 : Hid True := trivial
  have F2 : Hid True := trivial
  go_enter Tryd.func4, Tryd.ntmps4
  by_cases hn40 : n ≤ 40
  · have HRD := Lib.hid hx
    have hn41 : ¬ (40 : Int) < (n : Int) := by omega
    clear hx
    rcases hok : okB es with _ | _
    · go_wp2_with (first
        | (go_at_call 14; clear F1; refine (rightE_any _ _ _ es _ HRD.out (by omega)).mono ?_; rintro e w1 ⟨rfl, hb1⟩; rw [hok])
        | (go_at_call 3; refine (runs_any _).mono ?_; rintro e w2 ⟨rfl, hb2⟩)
        | fail)
      go_ret
      exact ⟨rfl, hb1.trans (hb2.mono hb1.size)⟩
    · have HOK : Hid (OKE es) := Lib.hid (okB_iff.1 hok)
      have HLE : Hid (es.length = n) := Lib.hid (ents_len HRD.out)
      obtain ⟨k, hk⟩ : ∃ k, k = seekN t es := ⟨_, rfl⟩
      have HK := Lib.hid hk
      have hkn : k ≤ n := by rw [hk, ← HLE.out]; exact seek_le t es
      have hkn1 : ¬ ((n : Nat) : Int) < (k : Int) := by omega
      have hkn2 : ¬ (k : Int) < 0 := by omega
      have H00 : Hid (seekN ⟨#[]⟩ es = 0) := Lib.hid (seek_nil es)
      clear hk
      go_wp2_with (first
        | (go_at_call 14; clear F1; refine (rightE_any _ _ _ es _ HRD.out (by omega)).mono ?_; rintro e w1 ⟨rfl, hb1⟩; rw [hok]; have HR1 : Hid (Reads w1 w1.heap.size 2 A n (rowE es)) := Lib.hid ((HRD.out.below hb1).more hb1.size))
        | (go_at_call 12; clear F2; refine (seek_any _ _ _ es t _ HR1.out (by omega)).mono ?_; rintro e w2 ⟨rfl, hb2⟩; rw [← HK.out])
        | fail)
      have HB1 := Lib.hid hb1
      clear hb1
      have HB2 : Hid (Below w.heap.size w w2) := Lib.hid (HB1.out.trans (hb2.mono HB1.out.size))
      have HR2 : Hid (Reads w2 w2.heap.size 2 A n (rowE es)) := Lib.hid ((HR1.out.below hb2).more hb2.size)
      clear hb2
      go_loopw [29] (fun i wr => ∃ j : Nat, j ≤ n ∧ i = .int .i64 j ∧ wr = w2) (fun i _ => n - (intOf i).toNat)
      case atStart => exact ⟨0, Nat.zero_le _, rfl, rfl⟩
      case round =>
        obtain ⟨j, hj, rfl, rfl⟩ := hrel
        by_cases hlt : j < n
        · obtain ⟨ad, rfl, hb, h0, _⟩ := ents_get HR2.out hlt
          obtain ⟨x, hxx⟩ : ∃ x, x = (es.getD j d0).1 := ⟨_, rfl⟩
          rw [← hxx] at h0
          have hlx : Op.bytesLess x.toList t.toList = decide (j < k) := by
            have := seek_sort HOK.out t (i := j) (by rw [HLE.out]; exact hlt)
            rw [← hxx, ← HK.out] at this; exact this
          have HX := Lib.hid hxx
          clear hxx
          by_cases hjk : j < k
          · have hjk' : (j : Int) < (k : Int) := by omega
            rw [decide_eq_true hjk] at hlx
            go_wp2
            go_roundw
            case rel => exact ⟨j + 1, by omega, by go_num, trivial⟩
            case measure => simp only [intOf]; omega
          · have hjk' : ¬ (j : Int) < (k : Int) := by omega
            rw [decide_eq_false hjk] at hlx
            go_wp2
            go_roundw
            case rel => exact ⟨j + 1, by omega, by go_num, trivial⟩
            case measure => simp only [intOf]; omega
        · go_wp2_with (first
            | (go_at_call 12; refine (seek_any _ _ _ es ⟨#[]⟩ _ HR2.out (by omega)).mono ?_; rintro e w3 ⟨rfl, hb3⟩; rw [H00.out])
            | (go_at_call 3; refine (runs_any _).mono ?_; rintro e w4 ⟨rfl, hb4⟩)
            | fail)
          go_ret
          exact ⟨rfl, HB2.out.trans ((hb3.trans (hb4.mono hb3.size)).mono HB2.out.size)⟩
  · have HRD : Hid (Reads w w.heap.size 2 A 40 (rowE (es.take 40))) := Lib.hid (hx.front (by omega))
    have hn41 : (40 : Int) < (n : Int) := by omega
    have hc40 : 40 ≤ c := by omega
    clear hx
    generalize es.take 40 = fs at *
    rcases hok : okB fs with _ | _
    · go_wp2_with (first
        | (go_at_call 14; clear F1; refine (rightE_any _ _ _ fs _ HRD.out (by omega)).mono ?_; rintro e w1 ⟨rfl, hb1⟩; rw [hok])
        | (go_at_call 3; refine (runs_any _).mono ?_; rintro e w2 ⟨rfl, hb2⟩)
        | fail)
      go_ret
      exact ⟨rfl, hb1.trans (hb2.mono hb1.size)⟩
    · have HOK : Hid (OKE fs) := Lib.hid (okB_iff.1 hok)
      have HLE : Hid (fs.length = 40) := Lib.hid (ents_len HRD.out)
      obtain ⟨k, hk⟩ : ∃ k, k = seekN t fs := ⟨_, rfl⟩
      have HK := Lib.hid hk
      have hkn : k ≤ 40 := by rw [hk, ← HLE.out]; exact seek_le t fs
      have hkn1 : ¬ ((40 : Nat) : Int) < (k : Int) := by omega
      have hkn2 : ¬ (k : Int) < 0 := by omega
      have H00 : Hid (seekN ⟨#[]⟩ fs = 0) := Lib.hid (seek_nil fs)
      clear hk
      go_wp2_with (first
        | (go_at_call 14; clear F1; refine (rightE_any _ _ _ fs _ HRD.out (by omega)).mono ?_; rintro e w1 ⟨rfl, hb1⟩; rw [hok]; have HR1 : Hid (Reads w1 w1.heap.size 2 A 40 (rowE fs)) := Lib.hid ((HRD.out.below hb1).more hb1.size))
        | (go_at_call 12; clear F2; refine (seek_any _ _ _ fs t _ HR1.out (by omega)).mono ?_; rintro e w2 ⟨rfl, hb2⟩; rw [← HK.out])
        | fail)
      have HB1 := Lib.hid hb1
      clear hb1
      have HB2 : Hid (Below w.heap.size w w2) := Lib.hid (HB1.out.trans (hb2.mono HB1.out.size))
      have HR2 : Hid (Reads w2 w2.heap.size 2 A 40 (rowE fs)) := Lib.hid ((HR1.out.below hb2).more hb2.size)
      clear hb2
      go_loopw [29] (fun i wr => ∃ j : Nat, j ≤ 40 ∧ i = .int .i64 j ∧ wr = w2) (fun i _ => 40 - (intOf i).toNat)
      case atStart => exact ⟨0, Nat.zero_le _, rfl, rfl⟩
      case round =>
        obtain ⟨j, hj, rfl, rfl⟩ := hrel
        by_cases hlt : j < 40
        · obtain ⟨ad, rfl, hb, h0, _⟩ := ents_get HR2.out hlt
          obtain ⟨x, hxx⟩ : ∃ x, x = (fs.getD j d0).1 := ⟨_, rfl⟩
          rw [← hxx] at h0
          have hlx : Op.bytesLess x.toList t.toList = decide (j < k) := by
            have := seek_sort HOK.out t (i := j) (by rw [HLE.out]; exact hlt)
            rw [← hxx, ← HK.out] at this; exact this
          have HX := Lib.hid hxx
          clear hxx
          by_cases hjk : j < k
          · have hjk' : (j : Int) < (k : Int) := by omega
            rw [decide_eq_true hjk] at hlx
            go_wp2
            go_roundw
            case rel => exact ⟨j + 1, by omega, by go_num, trivial⟩
            case measure => simp only [intOf]; omega
          · have hjk' : ¬ (j : Int) < (k : Int) := by omega
            rw [decide_eq_false hjk] at hlx
            go_wp2
            go_roundw
            case rel => exact ⟨j + 1, by omega, by go_num, trivial⟩
            case measure => simp only [intOf]; omega
        · go_wp2_with (first
            | (go_at_call 12; refine (seek_any _ _ _ fs ⟨#[]⟩ _ HR2.out (by omega)).mono ?_; rintro e w3 ⟨rfl, hb3⟩; rw [H00.out])
            | (go_at_call 3; refine (runs_any _).mono ?_; rintro e w4 ⟨rfl, hb4⟩)
            | fail)
          go_ret
          exact ⟨rfl, HB2.out.trans ((hb3.trans (hb4.mono hb3.size)).mono HB2.out.size)⟩
end Go.Proofs.YtbfmklaakjepaaaDoor
