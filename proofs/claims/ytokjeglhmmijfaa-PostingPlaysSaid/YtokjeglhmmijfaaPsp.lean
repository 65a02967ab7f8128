/-
  The reference's Has, Ids, Seek, at; conditions: lengths.
-/
import Derived.Test.YtokjeglhmmijfaaPsm
namespace Go.Proofs.Ytokjeglhmmijfaa
open Go.RowKit Go.WideShapes Go.ChangeShapes
set_option linter.all false
set_option maxRecDepth 100000 in
set_option maxHeartbeats 1600000 in
theorem refHas_any (A : Option Addr) (n c : Nat) (l : List Nat) (x : Int) (w : World) (h : SK .i64 w w.heap.size A n c (nb l)) :
    Calls Try.prog 29 #[.slice A n c, .int .i64 x] w fun e w' => e = .returned (.bool (hasB x l)) ∧ w = w' := by
  have HS := Lib.hid h
  have HLN : Hid (l.length = n) := Lib.hid (by have := h.len; rwa [nb_len] at this)
  have hn9 : n ≤ 9223372036854775807 := by have := h.1; have := h.2.1; unfold maxLen at this; omega
  obtain ⟨b, hb⟩ : ∃ b, b = hasB x l := ⟨_, rfl⟩
  rw [← hb]
  have HBB := Lib.hid hb
  clear h hb
  go_enter Try.func29, Try.ntmps29
  go_wp2
  go_loopw [6, 9] (fun _ i v1 => ∃ k : Nat, i = .int .i64 k ∧ k ≤ n ∧ Hid (∀ i, i < k → ¬ ((l.getD i 0 : Nat) : Int) = x) ∧ v1 = w) (fun _ i _ => n - (intOf i).toNat)
  case atStart => exact ⟨0, rfl, Nat.zero_le _, Lib.hid (fun i hi => by omega), rfl⟩
  case round =>
    obtain ⟨k, rfl, hk, HN, rfl⟩ := hrel
    have k0 : (0 : Int) ≤ k := by omega
    by_cases hlt : k < n
    · have hkl : k < l.length := by rw [HLN.out]; exact hlt
      obtain ⟨ad, rfl, g0⟩ := HS.out.2.2.2.kat hlt
      rw [nb_get hkl] at g0
      obtain ⟨y, hy⟩ : ∃ y, y = l.getD k 0 := ⟨_, rfl⟩
      rw [← hy] at g0
      by_cases hyx : (y : Int) = x
      · obtain rfl : b = true := by rw [HBB.out]; unfold hasB; exact decide_eq_true ⟨y, by rw [hy]; exact getD_mem0 hkl, hyx⟩
        have hyb : ((y : Int) == x) = true := by simp [hyx]
        have hyt : ((y : Int) = x) = True := eq_true hyx
        clear hy hyx hkl
        go_wp2
        go_ret
        exact ⟨rfl, by trivial⟩
      · have HN2 : Hid (∀ i, i < k + 1 → ¬ ((l.getD i 0 : Nat) : Int) = x) := Lib.hid (fun i hi => by
          by_cases e : i = k
          · rw [e, ← hy]; exact hyx
          · exact HN.out i (by omega))
        clear hy hkl
        go_wp2
        go_roundw
        case rel => exact ⟨k + 1, by go_num, by omega, HN2, by trivial⟩
        case measure => simp only [intOf]; omega
    · obtain rfl : n = k := by omega
      obtain rfl : b = false := by
        rw [HBB.out]; unfold hasB
        refine decide_eq_false ?_
        rintro ⟨z, hz, e⟩
        obtain ⟨i, hi, e1⟩ := List.getElem_of_mem hz
        refine HN.out i (by rw [← HLN.out]; exact hi) ?_
        rw [List.getD_eq_getElem?_getD, List.getElem?_eq_getElem hi, Option.getD_some, e1]; exact e
      go_wp2
      go_ret
      exact ⟨rfl, by trivial⟩
set_option maxRecDepth 100000 in
set_option maxHeartbeats 1600000 in
theorem refIds_any (A : Option Addr) (n c : Nat) (L : List (List Nat)) (ws : List Ar) (w : World) (h : LK .i64 w w.heap.size A n c ws) (hl : ws.map Ar.l = L.map nb) (hR : RL L) (hn : n ≤ 1000000) :
    Calls Try.prog 27 #[.slice A n c] w (IdsP L.flatten w) := by
  obtain ⟨i0, hi0, hz0, hz1, hz2⟩ := info_parts infoI
  have HK := Lib.hid h
  have HEL : Hid (∀ k, k < n → (ws.getD k dA).l = nb (L.getD k [])) := Lib.hid (fun k hk => h.el hl k hk)
  have HLN : Hid (L.length = n) := Lib.hid (by have := congrArg List.length hl; rw [List.length_map, List.length_map, h.len] at this; exact this.symm)
  have HR := Lib.hid hR
  have hc9 : c ≤ 9223372036854775807 := by have := h.2.1; unfold maxLen at this; omega
  have hnc := h.1
  clear h hl hR
  go_enter Try.func27, Try.ntmps27
  go_wp2
  go_loopw [3, 5, 8] (fun s _ i v1 => ∃ (j m : Nat) (V : Value), i = .int .i64 j ∧ j ≤ n ∧ s = V ∧ m ≤ 16 * j ∧ Hid (m = (L.take j).flatten.length) ∧ Hid (Below w.heap.size w v1) ∧ Hid (Mid v1 w.heap.size 3 1 V m (ks .i64 (nb (L.take j).flatten)))) (fun _ _ i _ => n - (intOf i).toNat)
  case atStart => exact ⟨0, 0, _, rfl, Nat.zero_le _, rfl, by omega, Lib.hid (by simp), Lib.hid (Below.refl _ _), Lib.hid (Mid.nil _ _ _ _)⟩
  case round =>
    obtain ⟨j, m, V, rfl, hj, hV, hm, HM, HY, HO⟩ := hrel
    subst hV
    obtain ⟨A1, c1, e1⟩ := HO.out.form
    subst e1
    have j0 : (0 : Int) ≤ j := by omega
    by_cases hlt : j < n
    · have hjl : j < L.length := by rw [HLN.out]; exact hlt
      obtain ⟨ad, rfl, g0, s0⟩ := (HK.out.below HY.out).at_ hlt
      rw [HEL.out j hlt] at s0
      obtain ⟨e1, he1⟩ : ∃ e1, e1 = ws.getD j dA := ⟨_, rfl⟩
      rw [← he1] at g0 s0
      obtain ⟨B1, m1, d1, l1⟩ := e1
      replace g0 : _ = some (Value.slice B1 m1 d1) := g0
      replace s0 : SK .i64 wr w.heap.size B1 m1 d1 (nb (L.getD j [])) := s0
      obtain ⟨b, hb⟩ : ∃ b, b = L.getD j [] := ⟨_, rfl⟩
      rw [← hb] at s0
      have hml : b.length = m1 := by have := s0.len; rwa [nb_len] at this
      subst hml
      have hbl : b.length ≤ 16 := by rw [hb]; exact (HR.out.len _ (getD_mem hjl)).2
      have HN : Hid ((L.take j).flatten ++ b = (L.take (j + 1)).flatten) := Lib.hid (by rw [take_flat hjl, hb])
      have HS := Lib.hid (s0.more HY.out.size)
      clear hb hjl he1 s0
      go_wp2_with (first
        | (refine wpList_append_src rfl (.tmp 12) (.tmp 13) 28 rfl w.heap.size 3 i0 _ 1 8 Try.underlying28 hi0 hz0 hz1 hz2 rfl (by omega) (.slice A1 m c1) m _ rfl HO.out wr.heap.size _ b.length d1 (ks .i64 (nb b)) rfl HS.out.2.2.2 (ks_one _ _) (by unfold maxLen; omega) (by omega) (by have := HY.out.size; omega) ?_
           intro v' w4 hmm hran
           have HMM := Lib.hid hmm
           have HRN := Lib.hid hran
           clear hmm hran)
        | fail)
      have HF : Hid (Mid w4 w.heap.size 3 1 v' (m + b.length) (ks .i64 (nb (L.take (j + 1)).flatten))) := Lib.hid (by
        have := HMM.out
        rw [← ks_append, ← nb_append, HN.out] at this
        exact this)
      have HB4 : Hid (Below w.heap.size w w4) := Lib.hid (HY.out.grown HRN.out.grown HY.out.size (fun g hg => (HO.out.lt g hg).1))
      have HML : Hid (m + b.length = (L.take (j + 1)).flatten.length) := Lib.hid (by rw [← HN.out, List.length_append, ← HM.out])
      go_roundw
      case rel => exact ⟨j + 1, m + b.length, v', by go_num, by omega, rfl, by omega, HML, HB4, HF⟩
      case measure => simp only [intOf]; omega
    · obtain rfl : n = j := by omega
      have hE : L.take n = L := List.take_of_length_le (by rw [HLN.out]; exact Nat.le_refl _)
      have HE : Hid (m = L.flatten.length ∧ Mid wr w.heap.size 3 1 (.slice A1 m c1) m (ks .i64 (nb L.flatten))) := Lib.hid (by
        have h1 := HM.out; have h2 := HO.out
        rw [hE] at h1 h2; exact ⟨h1, h2⟩)
      clear hE HO HM
      go_wp2
      go_ret
      exact ⟨A1, c1, by rw [← HE.out.1]; rfl, HY.out, by rw [← HE.out.1]; exact HE.out.2⟩
end Go.Proofs.Ytokjeglhmmijfaa
