/-
  Ascending and filter; conditions: lengths.
-/
import Derived.Test.YthgjpdbajmfclaaMg2
namespace Go.Proofs.Ythgjpdbajmfclaa
open Go.RowKit Go.WideShapes Go.ChangeShapes
set_option linter.all false
theorem SI.head {w : World} {B n c : Nat} {A : Option Addr} {l : List Int} (h : SI w B A n c l) (hn : 0 < n) : ∃ ad x r, A = some ad ∧ l = x :: r ∧ w.cell? ad = some (.int .i64 x) := by
  obtain ⟨ad, e, h1⟩ := h.2.2.2.kat hn
  have hl := h.len
  cases l with
  | nil => simp at hl; omega
  | cons x r => exact ⟨ad, x, r, e, rfl, by simpa [Addr.add] using h1⟩
theorem ks_snoc (R : List Int) (x : Int) : ks .i64 (R ++ [x]) = ks .i64 R ++ [.int .i64 x] := by rw [ks_append]; rfl
def lenV (a : Value) : Nat := match a with | .slice _ n _ => n | _ => 0
/-- What ascending holds: the rest of the list, the numbers so far. -/
def AI (l : List Int) (N : Nat) (w wr : World) (A : Option Addr) (n c : Nat) (l' : List Int) (v : Value) (R : List Int) : Prop :=
  SI wr N A n c l' ∧ Mid wr N 3 1 v R.length (ks .i64 R) ∧ Below N w wr ∧ R ++ asc l' = asc l ∧ R.length + l'.length ≤ l.length
set_option maxRecDepth 100000 in
set_option maxHeartbeats 800000 in
theorem asc_any (A : Option Addr) (n c : Nat) (l : List Int) (w : World) (h : SI w w.heap.size A n c l) (hn : n ≤ 2000) :
    Calls Try.prog 18 #[.slice A n c] w fun e w' => ∃ v, e = .returned v ∧ Mid w' w.heap.size 3 1 v (asc l).length (ks .i64 (asc l)) ∧ Below w.heap.size w w' := by
  obtain ⟨i0, hi0, hz0, hz1, hz2⟩ := info_parts infoI
  have hl := h.len
  have H0 := Lib.hid h
  clear h
  go_enter Try.func18, Try.ntmps18
  go_wp2
  go_loopw [0, 3] (fun a v wr => ∃ (A' : Option Addr) (n' c' : Nat) (l' : List Int) (V : Value) (R : List Int), a = .slice A' n' c' ∧ v = V ∧ n' ≤ n ∧ R.length + n' ≤ n ∧ Hid (AI l w.heap.size w wr A' n' c' l' V R)) (fun a _ _ => lenV a)
  case atStart => exact ⟨A, n, c, l, _, [], rfl, rfl, Nat.le_refl _, by simp, Lib.hid ⟨H0.out, Mid.nil _ _ _ _, Below.refl _ _, rfl, by simp⟩⟩
  case round =>
    obtain ⟨A', n', c', l', V, R, rfl, rfl, hn', hRn, HI⟩ := hrel
    obtain ⟨A6, c6, rfl⟩ := HI.out.2.1.form
    by_cases h0 : n' = 0
    · subst h0
      go_wp2
      go_ret
      have e : l' = [] := List.eq_nil_of_length_eq_zero HI.out.1.len
      have e2 : R = asc l := by have := HI.out.2.2.2.1; rw [e, asc_nil, List.append_nil] at this; exact this
      exact ⟨_, rfl, by rw [← e2]; exact HI.out.2.1, HI.out.2.2.1⟩
    · have hpos : (n' : Int) > 0 := by omega
      have hpos2 : (0 : Int) < n' := by omega
      obtain ⟨ad, x, r, rfl, hl', hcx⟩ := HI.out.1.head (by omega)
      obtain ⟨m, hm⟩ : ∃ m, m = R.length := ⟨_, rfl⟩
      have HM := Lib.hid hm
      rw [← hm] at hRn ⊢
      clear hm
      have HL' := Lib.hid hl'
      clear hl'
      have hsz : w.heap.size ≤ wr.heap.size := HI.out.2.2.1.size
      go_wp2_with (first
        | (refine wpList_append_mid rfl (.tmp 9) (.tmp 13) 22 rfl w.heap.size 3 i0 _ 1 8 Try.underlying22 hi0 hz0 hz1 hz2 rfl (by omega) (.slice A6 m c6) m _ rfl (by have := HI.out.2.1; rw [← HM.out] at this; exact this.same fun g hg => Below.heap_alloc _ _ g (this.lt g hg).2) ⟨_, 0, none⟩ 1 1 [.int .i64 x] rfl rfl (World.news_of_block (cs := #[.int .i64 x]) (t := 3) (fr := (0, 0)) (heap_alloc_new _ _)) (by simp [Value.oneCell']) (by unfold maxLen; omega) (by omega) (by simp; omega) ?_
           intro v' w3 hmm hran
           have HMM := Lib.hid hmm
           have HB3 := Lib.hid (HI.out.2.2.1.grown hran.alloc.grown hsz (fun g hg => (HI.out.2.1.lt g (by rw [← HM.out]; exact hg)).1))
           have HB4 : Hid (SI w3 w.heap.size (some ad) n' c' l') := Lib.hid (HI.out.1.below ((Below.refl _ _).grown hran.alloc.grown hsz (fun g hg => (HI.out.2.1.lt g (by rw [← HM.out]; exact hg)).1)))
           clear hmm hran)
        | (go_at_call 21; refine (adv_any w.heap.size (some ad) n' c' l' _ HB4.out).mono ?_
           rintro e w4 ⟨A9, n9, c9, rfl, hs9, hw4⟩
           rw [hw4]
           have HS9 := Lib.hid hs9
           have hl9 : n9 < n' := (by
             have h1 := hs9.len
             have h2 := HI.out.1.len
             rw [HL'.out] at h1 h2
             have := adv_len x r
             simp only [List.length_cons] at h2
             omega)
           clear hs9 hw4)
        | fail)
      go_roundw
      case rel => exact ⟨A9, n9, c9, adv l', v', R ++ [x], rfl, rfl, by omega, by rw [List.length_append, ← HM.out]; simp; omega, Lib.hid ⟨HS9.out, by rw [List.length_append, ← HM.out, ks_snoc]; exact HMM.out, HB3.out, by
        have := HI.out.2.2.2.1
        rw [← this, HL'.out, asc_cons, List.append_assoc]; rfl, by
        have h1 := HI.out.2.2.2.2
        rw [List.length_append, HL'.out]
        rw [HL'.out] at h1
        have := adv_len x r
        simp only [List.length_cons, List.length_nil] at h1 ⊢
        omega⟩⟩
      case measure => exact hl9
end Go.Proofs.Ythgjpdbajmfclaa
