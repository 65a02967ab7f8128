/-
  The law's own rising; lists in a list that is written out; conditions: lengths.
-/
import Derived.Test.YthgjpdbajmfclaaMgb
namespace Go.Proofs.Ythgjpdbajmfclaa
open Go.RowKit Go.WideShapes Go.ChangeShapes
set_option linter.all false
def RJ (l : List Int) (k : Nat) (R : List Int) : Prop := (R = [] ∧ k = 0) ∨ (R ≠ [] ∧ R ++ asc ((l.drop k).dropWhile fun y => decide (y ≤ R.getLastD 0)) = asc l)
theorem RJ.first {l : List Int} {x : Int} (h : RJ l 0 []) (hl : 0 < l.length) (hx : x = l.getD 0 0) : RJ l 1 [x] := by
  refine .inr ⟨by simp, ?_⟩
  cases l with
  | nil => simp at hl
  | cons a r =>
    simp at hx
    subst hx
    rw [asc_cons]; rfl
theorem lastD_snoc (R : List Int) (x : Int) : (R ++ [x]).getLastD 0 = x := by
  rw [List.getLastD_eq_getLast?]; simp
theorem RJ.more {l R : List Int} {k : Nat} {x : Int} (h : RJ l k R) (hR : R ≠ []) (hk : k < l.length) (hx : x = l.getD k 0) (hlt : R.getLastD 0 < x) : RJ l (k + 1) (R ++ [x]) := by
  rcases h with ⟨h0, _⟩ | ⟨_, h1⟩
  · exact absurd h0 hR
  · refine .inr ⟨by simp, ?_⟩
    rw [lastD_snoc, ← h1]
    rw [drop_at hk, ← hx, List.dropWhile_cons, if_neg (by rw [decide_eq_true_eq]; omega), asc_cons, List.append_assoc]
    rfl
theorem RJ.skip {l R : List Int} {k : Nat} {x : Int} (h : RJ l k R) (hR : R ≠ []) (hk : k < l.length) (hx : x = l.getD k 0) (hlt : ¬ R.getLastD 0 < x) : RJ l (k + 1) R := by
  rcases h with ⟨h0, _⟩ | ⟨_, h1⟩
  · exact absurd h0 hR
  · refine .inr ⟨hR, ?_⟩
    rw [← h1]
    rw [drop_at hk, ← hx, List.dropWhile_cons, if_pos (by rw [decide_eq_true_eq]; omega)]
theorem RJ.done {l R : List Int} {k : Nat} (h : RJ l k R) (hk : l.length ≤ k) : R = asc l := by
  rcases h with ⟨h0, h1⟩ | ⟨_, h1⟩
  · have : l = [] := List.eq_nil_of_length_eq_zero (by omega)
    rw [h0, this, asc_nil]
  · rw [List.drop_of_length_le hk] at h1
    have e : (([] : List Int).dropWhile fun y => decide (y ≤ R.getLastD 0)) = [] := rfl
    rw [e, asc_nil, List.append_nil] at h1
    exact h1
/-- A list of ints of the call's own comes back. -/
def LM (L : List Int) (w : World) (e : Ending) (w' : World) : Prop := ∃ v, e = .returned v ∧ Mid w' w.heap.size 3 1 v L.length (ks .i64 L) ∧ Below w.heap.size w w'
set_option maxRecDepth 100000 in
set_option maxHeartbeats 800000 in
theorem rising_mid (A : Option Addr) (n c : Nat) (l : List Int) (w : World) (h : SI w w.heap.size A n c l) (hn : n ≤ 2000) :
    Calls Try.prog 9 #[.slice A n c] w (LM (asc l) w) := by
  obtain ⟨i0, hi0, hz0, hz1, hz2⟩ := info_parts infoI
  have HS := Lib.hid h
  have HLN := Lib.hid h.len
  clear h
  go_enter Try.func9, Try.ntmps9
  go_wp2
  go_loopw [3, 8] (fun v i wr => ∃ (k : Nat) (V : Value) (R : List Int), v = V ∧ i = .int .i64 k ∧ k ≤ n ∧ R.length ≤ k ∧ Hid (Mid wr w.heap.size 3 1 V R.length (ks .i64 R) ∧ Below w.heap.size w wr ∧ RJ l k R)) (fun _ i _ => n - (intOf i).toNat)
  case atStart => exact ⟨0, _, [], rfl, rfl, Nat.zero_le _, by simp, Lib.hid ⟨Mid.nil _ _ _ _, Below.refl _ _, .inl ⟨rfl, rfl⟩⟩⟩
  case round =>
    obtain ⟨k, V, R, rfl, rfl, hk, hRk, HI⟩ := hrel
    obtain ⟨A6, c6, rfl⟩ := HI.out.1.form
    by_cases hlt : k < n
    · have hkl : k < l.length := by rw [HLN.out]; exact hlt
      obtain ⟨ad, rfl, h1⟩ := (HS.out.below HI.out.2.1).2.2.2.kat hlt
      obtain ⟨x, hx⟩ : ∃ x, x = l.getD k 0 := ⟨_, rfl⟩
      rw [← hx] at h1
      have HX := Lib.hid hx
      have HKL := Lib.hid hkl
      clear hx hkl
      have hsz : w.heap.size ≤ wr.heap.size := HI.out.2.1.size
      obtain ⟨m, hm⟩ : ∃ m, m = R.length := ⟨_, rfl⟩
      have HM := Lib.hid hm
      have HROW : Hid (Mid wr w.heap.size 3 1 (.slice A6 m c6) m (ks .i64 R)) := Lib.hid (by rw [hm]; exact HI.out.1)
      rw [← hm] at hRk ⊢
      clear hm
      by_cases h0 : m = 0
      · subst h0
        have HR0 : Hid (R = []) := Lib.hid (List.eq_nil_of_length_eq_zero HM.out.symm)
        have HN : Hid (RJ l (k + 1) (R ++ [x])) := Lib.hid (by
          rcases HI.out.2.2 with ⟨h1, h2⟩ | ⟨h1, _⟩
          · rw [HR0.out]; have h3 := HI.out.2.2; rw [h1, h2] at h3; subst h2; exact h3.first HKL.out HX.out
          · exact absurd HR0.out h1)
        go_wp2_with (first
          | (refine wpList_append_mid rfl (.tmp 25) (.tmp 27) 22 rfl w.heap.size 3 i0 _ 1 8 Try.underlying22 hi0 hz0 hz1 hz2 rfl (by omega) (.slice A6 (0) c6) (0) _ rfl (HROW.out.same fun g hg => Below.heap_alloc _ _ g (HROW.out.lt g hg).2) ⟨_, 0, none⟩ 1 1 [.int .i64 x] rfl rfl (World.news_of_block (cs := #[.int .i64 x]) (t := 3) (fr := (0, 0)) (heap_alloc_new _ _)) (by simp [Value.oneCell']) (by unfold maxLen; omega) (by omega) (by simp; omega) ?_
             intro v' w3 hmm hran
             have HMM := Lib.hid hmm
             have HB3 := Lib.hid (HI.out.2.1.grown hran.alloc.grown hsz (fun g hg => (HROW.out.lt g hg).1))
             clear hmm hran)
          | fail)
        go_roundw
        case rel => exact ⟨k + 1, v', R ++ [x], rfl, by go_num, by omega, by rw [List.length_append, ← HM.out]; simp <;> omega, Lib.hid ⟨by rw [List.length_append, ← HM.out, ks_snoc]; exact HMM.out, HB3.out, HN.out⟩⟩
        case measure => simp only [intOf]; omega
      · obtain ⟨m7, rfl⟩ : ∃ m7, m = m7 + 1 := ⟨m - 1, by omega⟩
        have HRNE : Hid (R ≠ []) := Lib.hid (by intro e; have := HM.out; rw [e] at this; simp at this)
        obtain ⟨ad6, rfl, hl6⟩ := HROW.out.reads.kat (k := m7) (by omega)
        have hlast : R.getD m7 0 = R.getLastD 0 := by have h1 := lastD_get HRNE.out; rw [← HM.out] at h1; exact h1
        rw [hlast] at hl6
        clear hlast
        have hne : ¬ (((m7 + 1 : Nat) : Int) = 0) := by omega
        by_cases hxl : R.getLastD 0 < x
        · have HN : Hid (RJ l (k + 1) (R ++ [x])) := Lib.hid (HI.out.2.2.more HRNE.out HKL.out HX.out hxl)
          obtain ⟨y, hy⟩ : ∃ y, y = R.getLastD 0 := ⟨_, rfl⟩
          rw [← hy] at hl6 hxl
          clear hy
          have hgt : x > y := hxl
          go_wp2_with (first
            | (refine wpList_append_mid rfl (.tmp 25) (.tmp 27) 22 rfl w.heap.size 3 i0 _ 1 8 Try.underlying22 hi0 hz0 hz1 hz2 rfl (by omega) (.slice (some ad6) (m7 + 1) c6) (m7 + 1) _ rfl (HROW.out.same fun g hg => Below.heap_alloc _ _ g (HROW.out.lt g hg).2) ⟨_, 0, none⟩ 1 1 [.int .i64 x] rfl rfl (World.news_of_block (cs := #[.int .i64 x]) (t := 3) (fr := (0, 0)) (heap_alloc_new _ _)) (by simp [Value.oneCell']) (by unfold maxLen; omega) (by omega) (by simp; omega) ?_
               intro v' w3 hmm hran
               have HMM := Lib.hid hmm
               have HB3 := Lib.hid (HI.out.2.1.grown hran.alloc.grown hsz (fun g hg => (HROW.out.lt g hg).1))
               clear hmm hran)
            | fail)
          go_roundw
          case rel => exact ⟨k + 1, v', R ++ [x], rfl, by go_num, by omega, by rw [List.length_append, ← HM.out]; simp <;> omega, Lib.hid ⟨by rw [List.length_append, ← HM.out, ks_snoc]; exact HMM.out, HB3.out, HN.out⟩⟩
          case measure => simp only [intOf]; omega
        · have HN : Hid (RJ l (k + 1) R) := Lib.hid (HI.out.2.2.skip HRNE.out HKL.out HX.out hxl)
          obtain ⟨y, hy⟩ : ∃ y, y = R.getLastD 0 := ⟨_, rfl⟩
          rw [← hy] at hl6 hxl
          clear hy
          have hgt : ¬ x > y := hxl
          have HI1 := HI
          clear HI
          go_wp2
          go_roundw
          case rel => exact ⟨k + 1, _, R, rfl, by go_num, by omega, by have := HM.out; omega, Lib.hid ⟨by rw [← HM.out]; exact HROW.out, HI1.out.2.1, HN.out⟩⟩
          case measure => simp only [intOf]; omega
    · obtain rfl : n = k := by omega
      have HD : Hid (R = asc l) := Lib.hid (HI.out.2.2.done (by rw [HLN.out]; exact Nat.le_refl _))
      go_wp2
      go_ret
      rw [← HD.out]
      exact ⟨_, rfl, HI.out.1, HI.out.2.1⟩
theorem rising_any (A : Option Addr) (n c : Nat) (l : List Int) (w : World) (h : SI w w.heap.size A n c l) (hn : n ≤ 2000) :
    Calls Try.prog 9 #[.slice A n c] w (LP (asc l) w) := (rising_mid A n c l w h hn).mono fun _ _ ⟨_, he, hm, hb⟩ => LP.of he hm hb
/-- A list of lists that is written out. -/
theorem LL.lit {w : World} (es : List Ar) (cs : Array Value) (hcs : cs.toList = es.map Ar.v) (h9 : es.length ≤ 100) (h : ∀ e ∈ es, SI w w.heap.size e.A e.n e.c e.l) :
    LL (w.alloc (.cells cs 22)) (w.alloc (.cells cs 22)).heap.size (some ⟨w.heap.size, 0, none⟩) es.length es.length es := by
  refine ⟨Nat.le_refl _, by unfold maxLen; omega, fun e => (by cases e), ?_, fun e he => (h e he).on (below_alloc _ _)⟩
  have := Reads.block (w := w) (xs := es.map Ar.v) 22 cs hcs
  rw [List.length_map] at this
  exact this
theorem LL.none_ (w : World) (B : Nat) : LL w B none 0 0 [] := ⟨Nat.le_refl _, by unfold maxLen; omega, fun _ => rfl, Reads.none_, by simp⟩
/-- A list of ints that is written out. -/
theorem SI.lit {w : World} (l : List Int) (cs : Array Value) (hcs : cs.toList = ks .i64 l) (h9 : l.length ≤ 1000) : SI (w.alloc (.cells cs 3)) (w.alloc (.cells cs 3)).heap.size (some ⟨w.heap.size, 0, none⟩) l.length l.length l := by
  refine ⟨Nat.le_refl _, by unfold maxLen; omega, fun e => (by cases e), ?_⟩
  have := Reads.block (w := w) (xs := ks .i64 l) 3 cs hcs
  rw [ks_len] at this
  exact this
theorem SI.onA {w : World} {n c : Nat} {A : Option Addr} {l : List Int} (h : SI w w.heap.size A n c l) (o : Obj) : SI (w.alloc o) (w.alloc o).heap.size A n c l := h.on (below_alloc w o)
end Go.Proofs.Ythgjpdbajmfclaa
