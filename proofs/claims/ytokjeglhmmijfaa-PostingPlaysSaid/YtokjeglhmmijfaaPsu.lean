/-
  The reference's Of; conditions: lengths.
-/
import Derived.Test.YtokjeglhmmijfaaPst
namespace Go.Proofs.Ytokjeglhmmijfaa
open Go.RowKit Go.WideShapes Go.ChangeShapes
set_option linter.all false
/-- What Of hands back. -/
def OfR (o : Bool) (ls : List (List Int)) (w : World) (e : Ending) (w' : World) : Prop :=
  Below w.heap.size w w' ∧ ((o = true ∧ ∃ A c own, e = .returned (.tuple #[.slice A own.length c, .int .i64 0]) ∧ OO w' w.heap.size (.slice A own.length c) own ∧ own.map Ar.l = ls) ∨ (o = false ∧ e = .returned (.tuple #[.slice none 0 0, .int .i64 8])))
set_option maxRecDepth 100000 in
set_option maxHeartbeats 1600000 in
theorem refOf_gen (A : Option Addr) (n c : Nat) (l : List Int) (w : World) (h : SK .i64 w w.heap.size A n c l) (hn : n ≤ 1000) (o : Bool) (ho : ascI 0 l = o) (m : Nat) (hm : m = (n + 15) / 16) :
    Calls Try.prog 23 #[.slice A n c] w (OfR o (ckis l m) w) := by
  obtain ⟨i0, hi0, hz0, hz1, hz2⟩ := info_parts info28
  obtain ⟨i1, hi1, hy0, hy1, hy2⟩ := info_parts infoI
  have HK := Lib.hid h
  have HO := Lib.hid ho
  have HLN : Hid (l.length = n) := Lib.hid h.len
  have hc9 : c ≤ maxLen := h.2.1
  have hnc : n ≤ c := h.1
  have HM := Lib.hid hm
  clear h ho hm
  go_enter Try.func23, Try.ntmps23
  go_wp2
  go_loopw [4, 5] (fun s i v1 => ∃ (j K : Nat) (V : Value), i = .int .i64 K ∧ Hid (K = 16 * j) ∧ s = V ∧ K < n + 16 ∧ Hid (Below w.heap.size w v1) ∧ Hid (∃ own : List Ar, own.length = j ∧ OO v1 w.heap.size V own ∧ own.map Ar.l = ckis l j)) (fun _ i _ => n + 16 - (intOf i).toNat)
  case atStart => exact ⟨0, 0, _, rfl, Lib.hid rfl, rfl, by omega, Lib.hid (Below.refl _ _), Lib.hid ⟨[], rfl, OO.nil _ _ (Nat.le_refl _), by simp [ckis]⟩⟩
  case round =>
    obtain ⟨j, K, V, rfl, HKJ, hV, hj, HY, HOW⟩ := hrel
    subst hV
    obtain ⟨own, hol, hoo, hom⟩ := HOW.out
    obtain ⟨A1, c1, e1⟩ := hoo.row.form
    rw [hol] at e1
    subst e1
    have j0 : (0 : Int) ≤ K := by omega
    by_cases hlt : K < n
    · obtain ⟨z, hz⟩ : ∃ z, z = min 16 (n - K) := ⟨_, rfl⟩
      have hz1' : 1 ≤ z := by omega
      have hz16 : z ≤ 16 := by omega
      have hj9 : j ≤ 1100 := by have := HKJ.out; omega
      have HZ : Hid ((min ((K : Int) + 16) (n : Int)).toNat - K = z) := Lib.hid (by omega)
      have HS0 := ((HK.out.below HY.out).drop (show K ≤ n by omega)).take (show z ≤ n - K by omega)
      rw [if_neg (show ¬ c = K by omega)] at HS0
      have HS := Lib.hid (HS0.more HY.out.size)
      have HN : Hid (ckis l j ++ [(l.drop K).take z] = ckis l (j + 1)) := Lib.hid (by
        rw [ckis_succ, cki, ← HKJ.out]
        congr 2
        have hl := HLN.out
        by_cases h16 : K + 16 ≤ n
        · rw [show z = 16 by omega]
        · rw [List.take_of_length_le (by rw [List.length_drop]; omega), List.take_of_length_le (by rw [List.length_drop]; omega)])
      obtain ⟨b, hb⟩ : ∃ b, b = (l.drop K).take z := ⟨_, rfl⟩
      rw [← hb] at HS HN
      have HOO := Lib.hid hoo
      have HOM := Lib.hid hom
      have HOL := Lib.hid hol
      have hcap : z ≤ maxLen := by unfold maxLen; omega
      clear hb HS0 hoo hom hol HOW hz
      have HM0 : Hid (Mid (wr.alloc (.cells #[] 3)) w.heap.size 3 1 (.slice (some ⟨wr.heap.size, 0, none⟩) 0 0) 0 []) := Lib.hid ⟨rfl, .inr ⟨_, 0, 0, #[], rfl, HY.out.size, heap_alloc_new wr _, Nat.le_refl _, Nat.zero_le _, by simp, rfl⟩⟩
      have HS2 := Lib.hid (HS.out.below (below_alloc wr (.cells #[] 3)))
      go_wp2_with (first
        | (refine wpList_build0 rfl rfl ?_)
        | (rw [HZ.out]
           refine wpList_append_src rfl (.tmp 13) (.tmp 21) 28 rfl w.heap.size 3 i1 _ 1 8 Try.underlying28 hi1 hy0 hy1 hy2 rfl (by omega) (.slice (some ⟨wr.heap.size, 0, none⟩) 0 0) 0 _ rfl HM0.out wr.heap.size _ z (c - K) (ks .i64 b) rfl HS2.out.2.2.2 (ks_one _ _) (by omega) (by omega) (by have := HY.out.size; simp; omega) ?_
           intro v5 w5 hmm hran
           have HM5 := Lib.hid hmm
           have HR5 := Lib.hid hran
           clear hmm hran
           obtain ⟨A5, c5, e5⟩ := HM5.out.form
           subst e5
           have ew : (0 : Nat) + z = z := by omega
           rw [ew] at HM5 ⊢
           have HB5 : Hid (Below wr.heap.size wr w5) := Lib.hid ((below_alloc wr (.cells #[] 3)).grown HR5.out.grown (by simp) (fun g hg => by simp [Value.ownBlock] at hg; omega))
           clear ew)
        | (refine wpList_append_mid rfl (.tmp 12) (.tmp 23) 53 rfl w.heap.size 28 i0 _ 1 24 Try.underlying53 hi0 hz0 hz1 hz2 rfl (by omega) (.slice A1 j c1) _ _ rfl ((by have := HOO.out.row; rw [HOL.out] at this; exact this.onb HB5.out : Mid w5 w.heap.size 28 1 (.slice A1 j c1) j (own.map Ar.v)).alloc_ _) ⟨w5.heap.size, 0, none⟩ 1 1 [.slice A5 z c5] rfl rfl (World.news_of_block (cs := #[.slice A5 z c5]) (t := 28) (fr := (0, 0)) (heap_alloc_new w5 _)) (by simp [Value.oneCell']) (by unfold maxLen; omega) (by omega) (by have := HY.out.size; have := HB5.out.size; simp; omega) ?_
           intro v' w6 hmm hran
           have HMM := Lib.hid hmm
           have HRN := Lib.hid hran
           clear hmm hran)
        | fail)
      have HB6 : Hid (Below w.heap.size w w6) := Lib.hid (((HY.out.trans (HB5.out.mono HY.out.size)).trans ((below_alloc w5 _).mono (by have := HY.out.size; have := HB5.out.size; omega))).grown HRN.out.grown (by have := HY.out.size; have := HB5.out.size; simp; omega) (fun g hg => (HOO.out.row.lt g hg).1))
      have HF : Hid (∃ own' : List Ar, own'.length = j + 1 ∧ OO w6 w.heap.size v' own' ∧ own'.map Ar.l = ckis l (j + 1)) := Lib.hid (by
        have hoo5 := (HOO.out.onb HB5.out).onb (below_alloc w5 (.cells #[.slice A5 z c5] 28))
        refine ⟨own ++ [⟨A5, z, c5, b⟩], by rw [List.length_append, HOL.out]; rfl, ?_, by rw [List.map_append, HOM.out, ← HN.out]; rfl⟩
        refine OO.snoc (w := w5.alloc (.cells #[.slice A5 z c5] 28)) (V := .slice A1 j c1) hoo5 ?_ (by rw [HOL.out]; exact HMM.out) HRN.out
        have := HM5.out.alloc_ (.cells #[.slice A5 z c5] 28)
        rw [List.nil_append] at this
        exact this)
      go_roundw
      case rel => exact ⟨j + 1, K + 16, v', by go_num, Lib.hid (by have := HKJ.out; omega), rfl, by omega, HB6, HF⟩
      case measure => simp only [intOf]; omega
    · obtain rfl : j = m := by have := HKJ.out; have := HM.out; omega
      have HOO := Lib.hid hoo
      have HOM := Lib.hid hom
      have HOL := Lib.hid hol
      have HLK := Lib.hid (hoo.lk hol)
      have HRC : Hid (Calls Try.prog 39 #[.slice A1 j c1] wr fun e w' => e = .returned (.bool o) ∧ w' = wr) := Lib.hid (by
        have h1 := refList_any A1 j c1 own wr HLK.out (fun e he => ?_) (by have := HM.out; omega)
        · rw [hom, rl_ck j l (-1) (by omega) (by have := HLN.out; have := HM.out; omega) (by have := HLN.out; have := HM.out; omega)] at h1
          rw [show ((-1 : Int) + 1) = 0 from rfl, HO.out] at h1
          exact h1
        · have h2 : e.l ∈ ckis l j := by rw [← hom]; exact List.mem_map_of_mem he
          unfold ckis at h2
          obtain ⟨k, _, hk⟩ := List.mem_map.1 h2
          have h3 := (hoo.els e he).sk.len
          rw [← h3, ← hk, cki, List.length_take]
          omega)
      clear hoo hom hol HOW HO
      cases o with
      | true =>
        go_wp2_with (first
          | (go_at_call 39; refine HRC.out.mono ?_; rintro e w2 ⟨rfl, hw2⟩; rw [hw2]; clear hw2)
          | fail)
        go_ret2
        exact ⟨HY.out, .inl ⟨rfl, A1, c1, own, by rw [HOL.out]; rfl, by rw [HOL.out]; exact HOO.out, HOM.out⟩⟩
      | false =>
        go_wp2_with (first
          | (go_at_call 39; refine HRC.out.mono ?_; rintro e w2 ⟨rfl, hw2⟩; rw [hw2]; clear hw2)
          | fail)
        go_ret2
        exact ⟨HY.out, .inr ⟨rfl, by rfl⟩⟩
end Go.Proofs.Ytokjeglhmmijfaa
