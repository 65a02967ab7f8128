/-
  The laws' helpers upto and blocks; conditions: lengths.
-/
import Derived.Test.YtokjeglhmmijfaaPsd
import Derived.StillTailTactics
namespace Go.Proofs.Ytokjeglhmmijfaa
open Go.RowKit Go.WideShapes Go.ChangeShapes
set_option linter.all false
/-- The numbers from a on, k of them. -/
def seqN (a k : Nat) : List Nat := (List.range k).map (a + ·)
theorem seqN_len (a k : Nat) : (seqN a k).length = k := by simp [seqN]
theorem seqN_succ (a k : Nat) : seqN a (k + 1) = seqN a k ++ [a + k] := by simp [seqN, List.range_succ]
set_option maxRecDepth 100000 in
set_option maxHeartbeats 800000 in
theorem upto_any (a k : Nat) (b : Int) (hb : b = (a + k : Int) - 1) (ha : a ≤ 1000) (hk : k ≤ 1000) (w : World) : Calls Try.prog 11 #[.int .i64 (a : Int), .int .i64 b] w (IdsP (seqN a k) w) := by
  obtain ⟨i0, hi0, hz0, hz1, hz2⟩ := info_parts infoI
  have HBQ := Lib.hid hb
  clear hb
  go_enter Try.func11, Try.ntmps11
  go_wp2
  go_loopw [5, 6] (fun v i wr => ∃ (j : Nat) (V : Value), i = .int .i64 ((a + j : Nat) : Int) ∧ j ≤ k ∧ v = V ∧ Hid (Mid wr w.heap.size 3 1 V j (ks .i64 (nb (seqN a j))) ∧ Below w.heap.size w wr)) (fun _ i _ => a + k - (intOf i).toNat)
  case atStart => exact ⟨0, _, rfl, Nat.zero_le _, rfl, Lib.hid ⟨Mid.nil _ _ _ _, Below.refl _ _⟩⟩
  case round =>
    obtain ⟨j, V, rfl, hj, hV, HI⟩ := hrel
    subst hV
    obtain ⟨A1, c1, e1⟩ := HI.out.1.form
    subst e1
    obtain ⟨x, hx⟩ : ∃ x, x = a + j := ⟨_, rfl⟩
    rw [← hx]
    have HX := Lib.hid hx
    have hx9 : (x : Int) ≤ 3000 := by omega
    have hx0 : (0 : Int) ≤ x := by omega
    by_cases hlt : j < k
    · have hle : (x : Int) ≤ b := by have := HBQ.out; omega
      clear hx
      go_wp2_with (first
        | (refine wpList_append_mid rfl (.tmp 13) (.tmp 15) 28 rfl w.heap.size 3 i0 _ 1 8 Try.underlying28 hi0 hz0 hz1 hz2 rfl (by omega) (.slice A1 j c1) _ _ rfl (HI.out.1.alloc_ _) ⟨wr.heap.size, 0, none⟩ 1 1 [.int .i64 (x : Int)] rfl rfl (World.news_of_block (cs := #[.int .i64 (x : Int)]) (t := 3) (fr := (0, 0)) (heap_alloc_new wr _)) (by simp [Value.oneCell']) (by unfold maxLen; omega) (by omega) (by have := HI.out.2.size; simp; omega) ?_
           intro v' w4 hmm hran
           have HMM := Lib.hid hmm
           have HRN := Lib.hid hran
           clear hmm hran)
        | fail)
      have HN : Hid (Mid w4 w.heap.size 3 1 v' (j + 1) (ks .i64 (nb (seqN a (j + 1)))) ∧ Below w.heap.size w w4) := Lib.hid ⟨by
        have := HMM.out
        rw [seqN_succ, nb_append, ks_append, ← HX.out]; exact this, (HI.out.2.trans ((below_alloc wr _).mono HI.out.2.size)).grown HRN.out.grown (by have := HI.out.2.size; simp; omega) (fun g hg => (HI.out.1.lt g hg).1)⟩
      go_roundw
      case rel => exact ⟨j + 1, v', by have := HX.out; congr 1; omega, by omega, rfl, HN⟩
      case measure => simp only [intOf]; have := HX.out; omega
    · obtain rfl : j = k := by omega
      have hle : ¬ (x : Int) ≤ b := by have := HBQ.out; omega
      clear hx
      go_wp2
      go_ret
      exact ⟨A1, c1, by rw [seqN_len]; rfl, HI.out.2, by rw [seqN_len]; exact HI.out.1⟩
theorem LK.el {κ : IntKind} {w : World} {B n c : Nat} {A : Option Addr} {ls : List Ar} {L : List (List Nat)} (h : LK κ w B A n c ls) (hl : ls.map Ar.l = L.map nb) (k : Nat) (hk : k < n) : (ls.getD k dA).l = nb (L.getD k []) := by
  have hL := congrArg List.length hl
  rw [List.length_map, List.length_map, h.len] at hL
  have hkl : k < ls.length := by rw [h.len]; exact hk
  have := congrArg (fun l => l[k]?) hl
  simp only [List.getElem?_map, List.getElem?_eq_getElem hkl, List.getElem?_eq_getElem (show k < L.length by omega), Option.map_some, Option.some.injEq] at this
  rw [List.getD_eq_getElem?_getD, List.getElem?_eq_getElem hkl, List.getD_eq_getElem?_getD, List.getElem?_eq_getElem (show k < L.length by omega)]
  exact this
theorem OO.lk {w : World} {N n c : Nat} {A : Option Addr} {own : List Ar} (h : OO w N (.slice A n c) own) (hn : own.length = n) : LK .i64 w w.heap.size A n c own := by
  subst hn
  exact ⟨h.row.caps.1, h.row.caps.2, fun e => by have := h.row.nocap e; have := h.row.caps.1; omega, h.row.readsv, fun e he => Mid.sk (h.els e he)⟩
set_option maxRecDepth 100000 in
set_option maxHeartbeats 1600000 in
theorem blocksEq_any (A A' : Option Addr) (n c n' c' : Nat) (L : List (List Nat)) (ws : List Ar) (w : World) (h : PL w w.heap.size A n c L) (hR : RL L) (hn : n ≤ 1000000) (hw : LK .i64 w w.heap.size A' n' c' ws) (hl : ws.map Ar.l = L.map nb) :
    Calls Try.prog 14 #[plV A n c, .slice A' n' c'] w fun e w' => e = .returned (.bool true) ∧ Below w.heap.size w w' := by
  obtain ⟨wb, hwb⟩ : ∃ wb, w.alloc (.cells #[.slice A n c] 24) = wb := ⟨_, rfl⟩
  have HX : Hid (PBox A n c w wb) := Lib.hid (hwb ▸ PBox.new A n c w)
  have p0 := HX.out.cell
  have hLn := h.len
  have hnn : n' = L.length := by have := congrArg List.length hl; rw [List.length_map, List.length_map, hw.len] at this; exact this
  obtain rfl : n' = n := by omega
  have HC : Hid (Calls Try.prog 16 #[plV A n' c] wb (BlksP L wb)) := Lib.hid (blocks_any A n' c L wb (h.on HX.out.bel) hR hn)
  have HWL := Lib.hid (hw.on HX.out.bel)
  have HEL : Hid (∀ k, k < n' → (ws.getD k dA).l = nb (L.getD k [])) := Lib.hid (fun k hk => hw.el hl k hk)
  have HLL := Lib.hid hLn
  have HR := Lib.hid hR
  have HW := Lib.hid hwb
  clear hwb h hR hw hl hLn hnn
  unfold plV at HC ⊢
  go_enter Try.func14, Try.ntmps14
  go_upto_region 1 with (fail)
  rw [HW.out]
  go_upto_region 4 with (first
    | (go_at_call 16; refine HC.out.mono ?_; rintro e w2 ⟨A2, c2, own, rfl, hb2, ho2, hm2⟩
       rw [HLL.out] at ho2 ⊢
       have HB2 := Lib.hid hb2
       have HON : Hid (own.length = n') := Lib.hid (by have := congrArg List.length hm2; rw [List.length_map, List.length_map, HLL.out] at this; exact this)
       have HO2 := Lib.hid (ho2.lk HON.out)
       have HM2 := Lib.hid hm2
       clear hb2 ho2 hm2)
    | fail)
  have HE2 : Hid (∀ k, k < n' → (own.getD k dA).l = nb (L.getD k [])) := Lib.hid (fun k hk => HO2.out.el HM2.out k hk)
  have HW2 := Lib.hid (HWL.out.on HB2.out)
  go_wp2
  go_loopw [6, 16] (fun _ i wr => ∃ k : Nat, i = .int .i64 k ∧ k ≤ n' ∧ Hid (Below w2.heap.size w2 wr)) (fun _ i _ => n' - (intOf i).toNat)
  case atStart => exact ⟨0, rfl, Nat.zero_le _, Lib.hid (Below.refl _ _)⟩
  case round =>
    obtain ⟨k, rfl, hk, HB⟩ := hrel
    by_cases hlt : k < n'
    · obtain ⟨ad, e1, g1, s1⟩ := (HO2.out.on HB.out).at_ hlt
      obtain ⟨ad', e2, g2, s2⟩ := (HW2.out.on HB.out).at_ hlt
      rw [HE2.out k hlt] at s1
      rw [HEL.out k hlt] at s2
      subst e1; subst e2
      obtain ⟨b, hb⟩ : ∃ b, b = L.getD k [] := ⟨_, rfl⟩
      rw [← hb] at s1 s2
      obtain ⟨e1, he1⟩ : ∃ e1, e1 = own.getD k dA := ⟨_, rfl⟩
      obtain ⟨e2, he2⟩ : ∃ e2, e2 = ws.getD k dA := ⟨_, rfl⟩
      rw [← he1] at g1 s1
      rw [← he2] at g2 s2
      obtain ⟨B1, m1, d1, l1⟩ := e1
      obtain ⟨B2, m2, d2, l2⟩ := e2
      have h9 := s1.2.1
      have h9' := s2.2.1
      have h8 := s1.1
      have h8' := s2.1
      unfold maxLen at h9 h9'
      have HS1 := Lib.hid s1
      have HS2 := Lib.hid s2
      have k0 : (0 : Int) ≤ k := by omega
      have k1 : (k : Int) < n' := by omega
      have h7 : m1 ≤ 9223372036854775807 := by have : m1 ≤ d1 := h8; have : d1 ≤ _ := h9; omega
      have h7' : m2 ≤ 9223372036854775807 := by have : m2 ≤ d2 := h8'; have : d2 ≤ _ := h9'; omega
      clear s1 s2 hb he1 he2 h8 h8' h9 h9'
      go_upto_region 7 with (fail)
      go_still_tail 8, (by kernel_rfl)
      go_wp2_with (first
        | (go_at_call 17; refine (same_i wr.heap.size B1 B2 m1 m2 d1 d2 (nb b) (nb b) _ (HS1.out.2.2.2.drew) (HS2.out.2.2.2.drew) h7 h7').mono ?_; rintro e w3 ⟨rfl, hb3⟩; rw [eqB_self]; have HB3 := Lib.hid hb3; clear hb3)
        | fail)
      go_roundw
      case rel => exact ⟨k + 1, by go_num, by omega, Lib.hid (HB.out.trans (((below_drew wr).trans HB3.out).mono HB.out.size))⟩
      case measure => simp only [intOf]; omega
    · obtain rfl : k = n' := by omega
      go_wp2
      go_ret
      exact ⟨rfl, HX.out.bel.trans ((HB2.out.trans (HB.out.mono HB2.out.size)).mono HX.out.bel.size)⟩
end Go.Proofs.Ytokjeglhmmijfaa
