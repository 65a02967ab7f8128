/-
  Decode at a node's words, the words tell the node, the law NodeBack's walk, one text; conditions: lengths.
-/
import Derived.Test.YtononinmjijhoaaNeA
import Derived.Test.YtononinmjijhoaaNkH
import Derived.Test.YtononinmjijhoaaNdp
import Derived.Test.YtononinmjijhoaaRuns
namespace Go.Proofs.Ytononinmjijhoaa
open Go.RowKit Go.WideShapes Go.ChangeShapes
set_option linter.all false
/-! node.children at the words of a node: its keys and children; conditions: lengths. -/
def Far (N : Nat) (A : Option Addr) : Prop := ∀ ad, A = some ad → N ≤ ad.block
theorem Far.mono {N M : Nat} {A : Option Addr} (h : Far N A) (k : M ≤ N) : Far M A := fun ad e => Nat.le_trans k (h ad e)
theorem mid_far {w : World} {b t k n c : Nat} {A : Option Addr} {xs : List Value} (h : Mid w b t k (.slice A n c) n xs) : Far b A := fun ad e => (h.lt ad.block (by subst e; rfl)).1
def ChR (W : World) (xs ys : List Int) (e : Ending) (w' : World) : Prop := ∃ A c A' c', e = .returned (.tuple #[.slice A xs.length c, .slice A' xs.length c']) ∧ Reads w' w'.heap.size 1 A xs.length (xs.map (Value.int .u8)) ∧ Reads w' w'.heap.size 1 A' xs.length (ys.map (Value.int .i64)) ∧ Far W.heap.size A ∧ Far W.heap.size A' ∧ Below W.heap.size W w'
theorem reads_on {w w' : World} {A : Option Addr} {n : Nat} {xs : List Value} (h : Reads w w.heap.size 1 A n xs) (hb : Below w.heap.size w w') : Reads w' w'.heap.size 1 A n xs := (h.below hb).more hb.size
set_option maxRecDepth 100000 in
set_option maxHeartbeats 1600000 in
theorem child1_any (g : Nat) (E xs ys : List Int) (w : World) (h : Reads w w.heap.size 1 (some ⟨g, 0, none⟩) 12 (u64s E)) (hb : Byt xs) (h4 : xs.length ≤ 4) (hl : ys.length = xs.length) (hk : (E.drop 4).take 1 = wd (strOfNums xs) 1 xs.length) (hc : ((E.drop 5).take 7).take xs.length = ys) (hr : ∀ i, i < xs.length → 0 ≤ ((E.drop 5).take 7).getD i 0 ∧ ((E.drop 5).take 7).getD i 0 < 9223372036854775808) :
    Calls Try.prog 43 #[.slice (some ⟨g, 0, none⟩) 12 12, .int .i64 1, .int .i64 xs.length] w (ChR w xs ys) := by
  have hk0 := reads_cut h 4 1 (by omega)
  rw [hk] at hk0
  have HK : Hid (Reads w.drew w.heap.size 1 (some ⟨g, 4, none⟩) 1 (u64s (wd (strOfNums xs) 1 xs.length))) := Lib.hid hk0.drew
  have HC : Hid (Reads w.drew w.heap.size 1 (some ⟨g, 5, none⟩) 7 (u64s ((E.drop 5).take 7))) := Lib.hid (reads_cut h 5 7 (by omega)).drew
  clear hk0
  have HE := Lib.hid hc
  have HR := Lib.hid hr
  have HBY := Lib.hid hb
  have H4 := Lib.hid h4
  clear h hb h4 hk hc hr
  go_enter Try.func43, Try.ntmps43
  go_wp2
  go_region_held3 (fun _ => True) (exact trivial)
    (first
      | (go_at_call 56; refine (getKeys_any _ 1 _ xs _ HBY.out (by have := H4.out; omega) HK.out (by omega)).mono ?_
         rintro e w2 ⟨g2, c2, rfl, hg2, hr2, hb2⟩
         have HR2 := Lib.hid hr2
         have HB2 := Lib.hid hb2
         clear hr2 hb2)
      | (go_at_call 57; refine (getKids_any _ 7 _ xs.length ((E.drop 5).take 7) _ (reads_on HC.out HB2.out) (by have := H4.out; omega) (by have := H4.out; omega) HR.out).mono ?_
         rintro e w3 ⟨g3, rfl, hm3, hb3⟩
         have HM3 := Lib.hid hm3
         have HB3 := Lib.hid hb3
         clear hm3 hb3))
  go_wp2
  go_ret2
  refine ⟨_, _, _, _, rfl, reads_on HR2.out HB3.out, ?_, fun ad e => by injection e with e; subst e; exact hg2, (mid_far HM3.out).mono HB2.out.size, after ((Below.refl w.heap.size w).drew) (after HB2.out HB3.out)⟩
  have h := HM3.out.reads
  rw [HE.out] at h
  exact h
set_option maxRecDepth 100000 in
set_option maxHeartbeats 1600000 in
theorem child2_any (g : Nat) (E xs ys : List Int) (w : World) (h : Reads w w.heap.size 1 (some ⟨g, 0, none⟩) 24 (u64s E)) (hb : Byt xs) (h4 : xs.length ≤ 16) (hl : ys.length = xs.length) (hk : (E.drop 4).take 2 = wd (strOfNums xs) 2 xs.length) (hc : ((E.drop 6).take 18).take xs.length = ys) (hr : ∀ i, i < xs.length → 0 ≤ ((E.drop 6).take 18).getD i 0 ∧ ((E.drop 6).take 18).getD i 0 < 9223372036854775808) :
    Calls Try.prog 43 #[.slice (some ⟨g, 0, none⟩) 24 24, .int .i64 2, .int .i64 xs.length] w (ChR w xs ys) := by
  have hk0 := reads_cut h 4 2 (by omega)
  rw [hk] at hk0
  have HK : Hid (Reads w.drew w.heap.size 1 (some ⟨g, 4, none⟩) 2 (u64s (wd (strOfNums xs) 2 xs.length))) := Lib.hid hk0.drew
  have HC : Hid (Reads w.drew w.heap.size 1 (some ⟨g, 6, none⟩) 18 (u64s ((E.drop 6).take 18))) := Lib.hid (reads_cut h 6 18 (by omega)).drew
  clear hk0
  have HE := Lib.hid hc
  have HR := Lib.hid hr
  have HBY := Lib.hid hb
  have H4 := Lib.hid h4
  clear h hb h4 hk hc hr
  go_enter Try.func43, Try.ntmps43
  go_wp2
  go_region_held3 (fun _ => True) (exact trivial)
    (first
      | (go_at_call 56; refine (getKeys_any _ 2 _ xs _ HBY.out (by have := H4.out; omega) HK.out (by omega)).mono ?_
         rintro e w2 ⟨g2, c2, rfl, hg2, hr2, hb2⟩
         have HR2 := Lib.hid hr2
         have HB2 := Lib.hid hb2
         clear hr2 hb2)
      | (go_at_call 57; refine (getKids_any _ 18 _ xs.length ((E.drop 6).take 18) _ (reads_on HC.out HB2.out) (by have := H4.out; omega) (by have := H4.out; omega) HR.out).mono ?_
         rintro e w3 ⟨g3, rfl, hm3, hb3⟩
         have HM3 := Lib.hid hm3
         have HB3 := Lib.hid hb3
         clear hm3 hb3))
  go_wp2
  go_ret2
  refine ⟨_, _, _, _, rfl, reads_on HR2.out HB3.out, ?_, fun ad e => by injection e with e; subst e; exact hg2, (mid_far HM3.out).mono HB2.out.size, after ((Below.refl w.heap.size w).drew) (after HB2.out HB3.out)⟩
  have h := HM3.out.reads
  rw [HE.out] at h
  exact h
theorem plc_byt (xs : List Int) (h : xs.length ≤ 48) : Byt (plc xs xs.length) := by
  have key : ∀ j, j ≤ xs.length → Byt (plc xs j) := by
    intro j
    induction j with
    | zero => intro _ z hz; rw [plc, List.mem_replicate] at hz; omega
    | succ j ih =>
      intro hj z hz
      rw [plc] at hz
      rcases List.mem_or_eq_of_mem_set hz with h1 | h1
      · exact ih (by omega) z h1
      · omega
  exact key _ (Nat.le_refl _)
set_option maxRecDepth 100000 in
set_option maxHeartbeats 1600000 in
theorem child3_any (g : Nat) (E xs ys : List Int) (w : World) (h : Reads w w.heap.size 1 (some ⟨g, 0, none⟩) 88 (u64s E)) (hb : Byt xs) (hp : Pw xs) (h4 : xs.length ≤ 48) (hl : ys.length = xs.length) (hk : (E.drop 4).take 32 = wd (strOfNums (plc xs xs.length)) 32 256) (hc : ((E.drop 36).take 52).take xs.length = ys) (hr : ∀ i, i < xs.length → 0 ≤ ((E.drop 36).take 52).getD i 0 ∧ ((E.drop 36).take 52).getD i 0 < 9223372036854775808) :
    Calls Try.prog 43 #[.slice (some ⟨g, 0, none⟩) 88 88, .int .i64 3, .int .i64 xs.length] w (ChR w xs ys) := by
  have hk0 := reads_cut h 4 32 (by omega)
  rw [hk] at hk0
  have HK : Hid (Reads w w.heap.size 1 (some ⟨g, 4, none⟩) 32 (u64s (wd (strOfNums (plc xs xs.length)) 32 (plc xs xs.length).length))) := Lib.hid (by rw [plc_len]; exact hk0)
  clear hk0
  have HC : Hid (Reads w w.heap.size 1 (some ⟨g, 36, none⟩) 52 (u64s ((E.drop 36).take 52))) := Lib.hid (reads_cut h 36 52 (by omega))
  have HE := Lib.hid hc
  have HR := Lib.hid hr
  have HMP : Hid (mkd (plc xs xs.length) 256 = xs) := Lib.hid (marked_places hb hp)
  have HPB : Hid (Byt (plc xs xs.length)) := Lib.hid (plc_byt xs h4)
  have HPL : Hid ((plc xs xs.length).length = 256) := Lib.hid (plc_len _ _)
  have H4 := Lib.hid h4
  clear h hb h4 hk hc hr
  generalize plc xs xs.length = tb at *
  go_enter Try.func43, Try.ntmps43
  go_upto_region 8 with (first
    | (go_at_call 56
       have H56 := getKeys_any (some ⟨g, 4, none⟩) 32 (88 - 4) tb w HPB.out (by rw [HPL.out]; omega) HK.out (by omega)
       rw [HPL.out] at H56
       refine H56.mono ?_
       rintro e w2 ⟨g2, c2, rfl, hg2, hr2, hb2⟩
       have HR2 := Lib.hid hr2
       have HB2 := Lib.hid hb2
       clear hr2 hb2 H56)
    | fail)
  go_region_held3 (fun _ => True) (exact trivial)
    (first
      | (go_at_call 58; refine (marked_any _ 256 _ tb _ (HR2.out.drew) (by omega)).mono ?_
         rintro e w3 ⟨v3, rfl, hm3, hb3⟩
         rw [HMP.out] at hm3
         obtain ⟨A3, c3, rfl⟩ := hm3.form
         have HM3 := Lib.hid hm3
         have HB3 : Hid (Below w2.heap.size w2 w3) := Lib.hid (after ((Below.refl w2.heap.size w2).drew) hb3)
         clear hm3 hb3)
      | (go_at_call 57; refine (getKids_any _ 52 _ xs.length ((E.drop 36).take 52) _ (reads_on (reads_on HC.out HB2.out) HB3.out) (by have := H4.out; omega) (by have := H4.out; omega) HR.out).mono ?_
         rintro e w4 ⟨g4, rfl, hm4, hb4⟩
         have HM4 := Lib.hid hm4
         have HB4 := Lib.hid hb4
         clear hm4 hb4))
  go_wp2
  go_ret2
  refine ⟨_, _, _, _, rfl, reads_on HM3.out.reads HB4.out, ?_, (mid_far HM3.out).mono HB2.out.size, (mid_far HM4.out).mono (Nat.le_trans HB2.out.size HB3.out.size), after HB2.out (after HB3.out HB4.out)⟩
  have h := HM4.out.reads
  rw [HE.out] at h
  exact h
theorem mkw_len (tb : List Int) (j : Nat) : (mkw tb j).length = (mkd tb j).length := by rw [mkw_map, List.length_map]
set_option maxRecDepth 100000 in
set_option maxHeartbeats 3200000 in
theorem child4_any (g : Nat) (E xs ys : List Int) (n : Nat) (w : World) (h : Reads w w.heap.size 1 (some ⟨g, 0, none⟩) 264 (u64s E)) (hk : mkd (E.drop 4) 256 = xs) (hc : mkw (E.drop 4) 256 = ys) (hr : ∀ b, b < 256 → 0 ≤ E.getD (4 + b) 0 ∧ E.getD (4 + b) 0 < 9223372036854775808) :
    Calls Try.prog 43 #[.slice (some ⟨g, 0, none⟩) 264 264, .int .i64 4, .int .i64 n] w (ChR w xs ys) := by
  obtain ⟨ib, bi, bz0, bz1, bz2⟩ := info_parts infoB
  obtain ⟨ii, ji, jz0, jz1, jz2⟩ := info_parts infoI
  have HX := Lib.hid h
  have HR := Lib.hid hr
  have HK := Lib.hid hk
  have HC := Lib.hid hc
  clear h hr hk hc
  go_enter Try.func43, Try.ntmps43
  go_wp2
  go_loopw [9, 10, 11, 12, 45] (fun v v' _ _ i wr => ∃ (j k c c' : Nat) (A A' : Option Addr), i = .int .i64 j ∧ v = .slice A k c ∧ v' = .slice A' k c' ∧ j ≤ 256 ∧ k ≤ j ∧ Hid (k = (mkd (E.drop 4) j).length ∧ Mid wr w.heap.size 5 1 (.slice A k c) k ((mkd (E.drop 4) j).map (Value.int .u8)) ∧ Mid wr w.heap.size 3 1 (.slice A' k c') k ((mkw (E.drop 4) j).map (Value.int .i64)) ∧ Below w.heap.size w wr)) (fun _ _ _ _ i _ => 256 - (intOf i).toNat)
  case atStart => exact ⟨0, 0, 0, 0, none, none, rfl, rfl, rfl, Nat.zero_le _, Nat.le_refl _, Lib.hid ⟨rfl, Mid.nil _ _ _ _, Mid.nil _ _ _ _, Below.refl _ _⟩⟩
  case round =>
    obtain ⟨j, k, c, c', A, A', rfl, rfl, rfl, hj, hkj, H⟩ := hrel
    by_cases hlt : j < 256
    · obtain ⟨g0, hgl⟩ := reads_word HX.out (4 + j) (by omega)
      have g1 : wr.cell? ⟨g, 4 + j, none⟩ = some (.int .u64 (E.getD (4 + j) 0)) := (H.out.2.2.2.cell hgl).trans g0
      have hy := HR.out j hlt
      have eD : (E.drop 4).getD j 0 = E.getD (4 + j) 0 := drop_getD E 4 j
      obtain ⟨y, hy0⟩ : ∃ y, y = E.getD (4 + j) 0 := ⟨_, rfl⟩
      rw [← hy0] at g1 hy eD
      have HD := Lib.hid eD
      clear hy0 g0 eD
      have hj1 : (j : Int) < 256 := by omega
      have hj2 : 4 + (j : Int) < 264 := by omega
      by_cases hz : y = 0
      · have hz1 : (y != 0) = false := by simp [hz]
        have HN : Hid (mkd (E.drop 4) (j + 1) = mkd (E.drop 4) j ∧ mkw (E.drop 4) (j + 1) = mkw (E.drop 4) j) := Lib.hid ⟨by rw [mkd, if_pos (by rw [HD.out]; exact hz)], by rw [mkw, if_pos (by rw [HD.out]; exact hz)]⟩
        clear hz
        go_wp2
        go_roundw
        case rel => exact ⟨j + 1, k, c, c', A, A', by go_num, rfl, rfl, by omega, by omega, Lib.hid (by rw [HN.out.1, HN.out.2]; exact H.out)⟩
        case measure => simp only [intOf]; omega
      · have hz1 : (y != 0) = true := by simp [hz]
        have HN : Hid (mkd (E.drop 4) (j + 1) = mkd (E.drop 4) j ++ [(j : Int)] ∧ mkw (E.drop 4) (j + 1) = mkw (E.drop 4) j ++ [y]) := Lib.hid ⟨by rw [mkd, if_neg (by rw [HD.out]; exact hz)], by rw [mkw, if_neg (by rw [HD.out]; exact hz), HD.out]⟩
        have hw1 : IntKind.i64.wrap y = y := wraps_i64 _ hy.1 (by omega)
        clear hz hy
        have HMA : Hid (Mid (wr.alloc (.cells #[.int .u8 j] 5)) w.heap.size 5 1 (.slice A k c) k ((mkd (E.drop 4) j).map (Value.int .u8)) ∧ Mid (wr.alloc (.cells #[.int .u8 j] 5)) w.heap.size 3 1 (.slice A' k c') k ((mkw (E.drop 4) j).map (Value.int .i64)) ∧ Below w.heap.size w (wr.alloc (.cells #[.int .u8 j] 5))) := Lib.hid ⟨H.out.2.1.same fun g hg => heap_alloc_old _ _ (H.out.2.1.lt g hg).2, H.out.2.2.1.same fun g hg => heap_alloc_old _ _ (H.out.2.2.1.lt g hg).2, H.out.2.2.2.alloc H.out.2.2.2.size _⟩
        go_upto_region 17 with (first
          | (refine wpList_append_mid rfl (.tmp 55) (.tmp 58) 23 rfl w.heap.size 5 ib _ 1 1 Try.underlying23 bi bz0 bz1 bz2 rfl (by omega) (.slice A k c) k _ rfl HMA.out.1 ⟨_, 0, none⟩ 1 1 [.int .u8 j] rfl rfl (World.news_of_block (cs := #[.int .u8 j]) (t := 5) (fr := (0, 0)) (heap_alloc_new _ _)) (by simp [Value.oneCell']) (by unfold maxLen; omega) (by omega) (by have := H.out.2.2.2.size; simp; omega) ?_
             intro v' w3 hmm hran
             have HB3 : Hid (Below w.heap.size w w3) := Lib.hid (HMA.out.2.2.trans (hran.below HMA.out.2.2.size fun g hg => (HMA.out.1.lt g hg).1))
             have HY3 : Hid (Mid w3 w.heap.size 3 1 (.slice A' k c') k ((mkw (E.drop 4) j).map (Value.int .i64))) := Lib.hid (HMA.out.2.1.same fun q hq => hran.keep (HMA.out.2.1.lt q hq).2 (fun e => Mid.apart HMA.out.1 HMA.out.2.1 e.symm hq rfl) rfl)
             obtain ⟨A2, c2, rfl⟩ := hmm.form
             have HM3 := Lib.hid hmm
             clear hmm hran)
          | fail)
        have HMB : Hid (Mid (w3.alloc (.cells #[.int .i64 y] 3)) w.heap.size 5 1 (.slice A2 (k + 1) c2) (k + 1) ((mkd (E.drop 4) j).map (Value.int .u8) ++ [.int .u8 j]) ∧ Mid (w3.alloc (.cells #[.int .i64 y] 3)) w.heap.size 3 1 (.slice A' k c') k ((mkw (E.drop 4) j).map (Value.int .i64)) ∧ Below w.heap.size w (w3.alloc (.cells #[.int .i64 y] 3))) := Lib.hid ⟨HM3.out.same fun g hg => heap_alloc_old _ _ (HM3.out.lt g hg).2, HY3.out.same fun g hg => heap_alloc_old _ _ (HY3.out.lt g hg).2, HB3.out.alloc HB3.out.size _⟩
        go_wp2_with (first
          | (refine wpList_append_mid rfl (.tmp 60) (.tmp 63) 26 rfl w.heap.size 3 ii _ 1 8 Try.underlying26 ji jz0 jz1 jz2 rfl (by omega) (.slice A' k c') k _ rfl HMB.out.2.1 ⟨_, 0, none⟩ 1 1 [.int .i64 y] rfl rfl (World.news_of_block (cs := #[.int .i64 y]) (t := 3) (fr := (0, 0)) (heap_alloc_new _ _)) (by simp [Value.oneCell']) (by unfold maxLen; omega) (by omega) (by have := HB3.out.size; simp; omega) ?_
             intro v' w5 hmm hran
             have HB5 : Hid (Below w.heap.size w w5) := Lib.hid (HMB.out.2.2.trans (hran.below HMB.out.2.2.size fun g hg => (HMB.out.2.1.lt g hg).1))
             have HX5 : Hid (Mid w5 w.heap.size 5 1 (.slice A2 (k + 1) c2) (k + 1) ((mkd (E.drop 4) j).map (Value.int .u8) ++ [.int .u8 j])) := Lib.hid (HMB.out.1.same fun q hq => hran.keep (HMB.out.1.lt q hq).2 (fun e => Mid.apart HMB.out.1 HMB.out.2.1 hq e.symm rfl) rfl)
             obtain ⟨A5, c5, rfl⟩ := hmm.form
             have HM5 := Lib.hid hmm
             clear hmm hran)
          | fail)
        go_roundw
        case rel => exact ⟨j + 1, k + 1, c2, c5, A2, A5, by go_num, rfl, rfl, by omega, by omega, Lib.hid ⟨by rw [HN.out.1, List.length_append, ← H.out.1]; rfl, by rw [HN.out.1, List.map_append]; exact HX5.out, by rw [HN.out.2, List.map_append]; exact HM5.out, HB5.out⟩⟩
        case measure => simp only [intOf]; omega
    · obtain rfl : j = 256 := by omega
      have e1 := H.out.1
      rw [HK.out] at e1
      subst e1
      have hj3 : ¬ ((256 : Nat) : Int) < 256 := by omega
      go_wp2
      go_ret2
      exact ⟨_, _, _, _, rfl, by have h := H.out.2.1.reads; rw [HK.out] at h; exact h, by have h := H.out.2.2.1.reads; rw [HC.out] at h; exact h, mid_far H.out.2.1, mid_far H.out.2.2.1, H.out.2.2.2⟩
/-! node.Decode at the words of a right node: that node; conditions: lengths. -/
theorem child_any (g : Nat) (kd w0 : Int) (pf : ByteArray) (xs ys : List Int) (w : World) (h : NodeL kd w0 pf xs ys xs.length) (h1 : 1 ≤ kd) (h4 : kd ≤ 4) (hb : Byt xs) (hl : ys.length = xs.length) (hW : Reads w w.heap.size 1 (some ⟨g, 0, none⟩) (sizeN kd) (u64s (encW kd w0 pf xs ys xs.length))) :
    Calls Try.prog 43 #[.slice (some ⟨g, 0, none⟩) (sizeN kd) (sizeN kd), .int .i64 kd, .int .i64 xs.length] w (ChR w xs ys) := by
  have hh := h.high
  have hp := h.pref
  have hr := fun i (hi : i < xs.length) => refs_range h.refs i (by rw [hl]; exact hi)
  have cutk : ∀ (N o : Nat) (E : List Int), E.length = N → o + xs.length ≤ N → (∀ i, i < xs.length → E.getD (o + i) 0 = ys.getD i 0) → ((E.drop o).take (N - o)).take xs.length = ys ∧ ∀ i, i < xs.length → 0 ≤ ((E.drop o).take (N - o)).getD i 0 ∧ ((E.drop o).take (N - o)).getD i 0 < 9223372036854775808 := by
    intro N o E hE ho hg
    have e1 : (E.drop o).take (N - o) = E.drop o := List.take_of_length_le (by simp; omega)
    rw [e1]
    refine ⟨cut_eq E ys o xs.length (by omega) hl hg, fun i hi => ?_⟩
    rw [drop_getD, hg i hi]
    exact hr i hi
  rcases (show kd = 1 ∨ kd = 2 ∨ kd = 3 ∨ kd = 4 by omega) with rfl | rfl | rfl | rfl
  · have hn : xs.length ≤ 4 := by simp [highV] at hh; omega
    have hs : (strOfNums xs).size = xs.length := strOfNums_size xs
    obtain ⟨k1, k2⟩ := cutk 12 5 (encW 1 w0 pf xs ys xs.length) (encW_len 1 w0 pf xs ys h (by omega) (by omega)) (by omega) (fun i hi => encS_kids 12 _ _ _ _ 5 _ _ i hp (by rw [hs]; unfold cnt; omega) (by omega) hi)
    exact child1_any g _ xs ys w hW hb hn hl (by have := encS_str 12 w0 (hdW 1 pf.size xs.length) pf (strOfNums xs) 5 ys xs.length 1 hp (by rw [hs]; omega) (by omega) (by omega); rw [hs] at this; exact this) k1 k2
  · have hn : xs.length ≤ 16 := by simp [highV] at hh; omega
    have hs : (strOfNums xs).size = xs.length := strOfNums_size xs
    obtain ⟨k1, k2⟩ := cutk 24 6 (encW 2 w0 pf xs ys xs.length) (encW_len 2 w0 pf xs ys h (by omega) (by omega)) (by omega) (fun i hi => encS_kids 24 _ _ _ _ 6 _ _ i hp (by rw [hs]; unfold cnt; omega) (by omega) hi)
    exact child2_any g _ xs ys w hW hb hn hl (by have := encS_str 24 w0 (hdW 2 pf.size xs.length) pf (strOfNums xs) 6 ys xs.length 2 hp (by rw [hs]; omega) (by omega) (by omega); rw [hs] at this; exact this) k1 k2
  · have hn : xs.length ≤ 48 := by simp [highV] at hh; omega
    have hs : (strOfNums (plc xs xs.length)).size = 256 := by rw [strOfNums_size, plc_len]
    obtain ⟨k1, k2⟩ := cutk 88 36 (encW 3 w0 pf xs ys xs.length) (encW_len 3 w0 pf xs ys h (by omega) (by omega)) (by omega) (fun i hi => encS_kids 88 _ _ _ _ 36 _ _ i hp (by rw [hs]; unfold cnt; omega) (by omega) hi)
    exact child3_any g _ xs ys w hW hb (asc_pw h.asc) hn hl (by have := encS_str 88 w0 (hdW 3 pf.size xs.length) pf (strOfNums (plc xs xs.length)) 36 ys xs.length 32 hp (by rw [hs]; omega) (by omega) (by omega); rw [hs] at this; exact this) k1 k2
  · have hz : ∀ y ∈ ys, y ≠ 0 := fun y hy => by
      obtain ⟨i, hi, e⟩ := List.getElem_of_mem hy
      obtain ⟨s, g, l, e1, q0, q1, q2, q3⟩ := h.refs i hi
      rw [List.getD_eq_getElem?_getD, List.getElem?_eq_getElem hi, e] at e1
      simp only [Option.getD_some] at e1
      rw [e1]; unfold refV; split <;> omega
    have hpw := asc_pw h.asc
    refine child4_any g _ xs ys xs.length w hW (encZ_keys w0 _ pf xs ys hp hb hpw hl hz) (encZ_kids w0 _ pf xs ys hp hb hpw hl hz) (fun b hb2 => ?_)
    by_cases hm : (b : Int) ∈ xs
    · obtain ⟨i, hi, e⟩ := List.getElem_of_mem hm
      have e2 : xs.getD i 0 = (b : Int) := by rw [List.getD_eq_getElem?_getD, List.getElem?_eq_getElem hi]; exact e
      have h3 := encZ_in w0 (hdW 4 pf.size xs.length) pf xs ys hp hb hpw i hi
      rw [e2, Int.toNat_natCast] at h3
      have h4 : (encW 4 w0 pf xs ys xs.length).getD (4 + b) 0 = ys.getD i 0 := h3
      rw [h4]; exact hr i hi
    · have h3 := encZ_out w0 (hdW 4 pf.size xs.length) pf xs ys hp hb b hm
      have h4 : (encW 4 w0 pf xs ys xs.length).getD (4 + b) 0 = 0 := h3
      rw [h4]; omega
def DecR (W : World) (kd wd : Int) (pf : ByteArray) (xs ys : List Int) (e : Ending) (w' : World) : Prop := ∃ A c A' c', e = .returned (.tuple #[nodeV kd wd pf A c A' c' xs.length, .bool true]) ∧ Reads w' w'.heap.size 1 A xs.length (xs.map (Value.int .u8)) ∧ Reads w' w'.heap.size 1 A' xs.length (ys.map (Value.int .i64)) ∧ Below W.heap.size W w'
theorem reads_far {w w' : World} {N n : Nat} {A : Option Addr} {xs : List Value} (h : Reads w w.heap.size 1 A n xs) (hf : Far N A) (hs : w.heap.size ≤ w'.heap.size) (hb : ∀ b, N ≤ b → b < w.heap.size → w'.heap[b]? = w.heap[b]?) : Reads w' w'.heap.size 1 A n xs := by
  refine ⟨h.1, fun hn => ?_⟩
  obtain ⟨ad, e, hl, hc⟩ := h.2 hn
  refine ⟨ad, e, Nat.lt_of_lt_of_le hl hs, fun j v hv => ?_⟩
  have h1 := hc j v hv
  have hbk : (ad.add j).block = ad.block := block_of_add _ _
  unfold World.cell? at h1 ⊢
  rw [hbk] at h1 ⊢
  rw [hb ad.block (hf ad e) hl]
  exact h1
theorem sizeN_lo (kd : Int) : 12 ≤ sizeN kd := by unfold sizeN; split <;> (try split) <;> (try split) <;> omega
theorem sizeN_hi (kd : Int) : sizeN kd ≤ 264 := by unfold sizeN; split <;> (try split) <;> (try split) <;> omega
set_option maxRecDepth 100000 in
set_option maxHeartbeats 6400000 in
theorem decode_any (g : Nat) (kd w0 : Int) (pf : ByteArray) (xs ys : List Int) (w : World) (h : NodeL kd w0 pf xs ys xs.length) (h1 : 1 ≤ kd) (h4 : kd ≤ 4) (hb : Byt xs) (hl : ys.length = xs.length) (hn : xs.length ≤ 256) (hW : Reads w w.heap.size 1 (some ⟨g, 0, none⟩) (sizeN kd) (u64s (encW kd w0 pf xs ys xs.length))) :
    Calls Try.prog 25 #[.slice (some ⟨g, 0, none⟩) (sizeN kd) (sizeN kd)] w (DecR w kd w0 pf xs ys) := by
  obtain ⟨wb, hwb⟩ : ∃ wb, w.alloc (.cells #[.int .i64 0, .int .u64 0, .string ⟨#[]⟩, .slice none 0 0, .slice none 0 0] 28) = wb := ⟨_, rfl⟩
  have HBW : Hid (Below w.heap.size w wb) := Lib.hid (by rw [← hwb]; exact (Below.refl _ _).alloc (Nat.le_refl _) _)
  have hbx : wb.heap[w.heap.size]? = some (.cells #[.int .i64 0, .int .u64 0, .string ⟨#[]⟩, .slice none 0 0, .slice none 0 0] 28 (0, 0)) := by rw [← hwb]; exact heap_alloc_new _ _
  have HBX := Lib.hid hbx
  have HSZ : Hid (wb.heap.size = w.heap.size + 1) := Lib.hid (by rw [← hwb]; simp)
  have HR : Hid (Reads wb wb.heap.size 1 (some ⟨g, 0, none⟩) (sizeN kd) (u64s (encW kd w0 pf xs ys xs.length))) := Lib.hid (reads_on hW HBW.out)
  have HW := Lib.hid hwb
  have HH : Hid (EncH w0 (hdW kd pf.size xs.length) pf (encW kd w0 pf xs ys xs.length)) := Lib.hid (encW_head kd w0 pf xs ys h h1 h4 hb)
  have HL := Lib.hid h
  have HBY := Lib.hid hb
  have HLY := Lib.hid hl
  have HK : Hid (1 ≤ kd ∧ kd ≤ 4) := Lib.hid ⟨h1, h4⟩
  have hSZ1 := sizeN_lo kd
  have hSZ2 := sizeN_hi kd
  have c1 := (reads_word HR.out 1 (by omega)).1
  have c0 := (reads_word HR.out 0 (by omega)).1
  rw [HH.out.e1] at c1
  rw [HH.out.e0] at c0
  have hk := hd_kind kd pf.size xs.length (by omega) (by omega) (by have := h.pref; omega) (by omega)
  have hc := hd_count kd pf.size xs.length (by omega) (by omega) (by have := h.pref; omega) (by omega)
  obtain ⟨hd, hhd⟩ : ∃ hd, hd = hdW kd pf.size xs.length := ⟨_, rfl⟩
  rw [← hhd] at c1 hk hc
  clear hhd
  have hw1 : IntKind.i64.wrap kd = kd := IntWalk.i64_in _ (by omega)
  have hw2 : IntKind.i64.wrap (xs.length : Int) = (xs.length : Int) := IntWalk.i64_in _ (by omega)
  obtain ⟨hv, hhv⟩ : ∃ hv, hv = highV kd := ⟨_, rfl⟩
  have hv0 : 0 < hv := by rw [hhv]; exact h.kind
  have hv1 : (xs.length : Int) ≤ hv := by rw [hhv]; exact h.high
  have hv2 : hv ≤ 256 := by rw [hhv]; unfold highV; split <;> (try split) <;> (try split) <;> (try split) <;> omega
  have hw3 : IntKind.u64.wrap hv = hv := IntWalk.u64_in _ (by omega)
  have HHV := Lib.hid hhv
  have z1 : ¬ ((sizeN kd : Nat) : Int) ≤ 1 := by omega
  have z2 : (1 : Int) < (sizeN kd : Nat) := by omega
  have z3 : (hv == 0) = false := by simp; omega
  have z4 : ¬ hv < (xs.length : Int) := by omega
  clear hwb hW h h1 h4 hb hhv hbx
  go_enter Try.func25, Try.ntmps25
  go_upto_region 7 with (first
    | (rw [HW.out])
    | (go_at_call 12; refine (high_any kd _).mono ?_; rintro e w' ⟨rfl, hw'⟩; replace hw' := hw'.symm; subst hw'; rw [← HHV.out])
    | (go_at_call 38; refine (size_any kd HK.out.1 HK.out.2 _).mono ?_; rintro e w' ⟨rfl, hw'⟩; replace hw' := hw'.symm; subst hw')
    | fail)
  have HG : Hid (g < wb.heap.size) := Lib.hid (reads_word HR.out 0 (by omega)).2
  have HC0 := Lib.hid c0
  go_upto_region 11 with (first
    | (go_at_call 42
       refine (prefix_any g (sizeN kd) (encW kd w0 pf xs ys xs.length) w0 kd pf xs.length wb HR.out hSZ1 (by omega) HH.out (by have := HK.out; omega) (by have := HK.out; omega) HL.out.pref (by omega)).mono ?_
       rintro e w1 ⟨rfl, hb1⟩
       have q0 : w1.cell? ⟨g, 0, none⟩ = some (.int .u64 w0) := (hb1.cell HG.out).trans HC0.out
       have HB1 := Lib.hid hb1
       clear hb1)
    | fail)
  obtain ⟨w2, hw2⟩ : ∃ w2, w1.alloc (.cells #[.int .i64 kd, .int .u64 w0, .string pf, .slice none 0 0, .slice none 0 0] 28) = w2 := ⟨_, rfl⟩
  have HB12 : Hid (Below wb.heap.size wb w2) := Lib.hid (after HB1.out (by rw [← hw2]; exact (Below.refl _ _).alloc (Nat.le_refl _) _))
  have HBX2 : Hid (w2.heap[w1.heap.size]? = some (.cells #[.int .i64 kd, .int .u64 w0, .string pf, .slice none 0 0, .slice none 0 0] 28 (0, 0))) := Lib.hid (by rw [← hw2]; exact heap_alloc_new _ _)
  have HR2 := Lib.hid (reads_on HR.out HB12.out)
  have HS2 : Hid (w2.heap.size = w1.heap.size + 1) := Lib.hid (by rw [← hw2]; simp)
  rw [hw2]
  clear hw2 q0 c0 c1
  obtain ⟨b, hb⟩ : ∃ b, b = w1.heap.size := ⟨_, rfl⟩
  rw [← hb] at HBX2 HS2 ⊢
  have HLB2 : Hid (wb.heap.size ≤ b) := Lib.hid (by rw [hb]; exact HB1.out.size)
  have HLB : Hid (w.heap.size < b) := Lib.hid (by rw [hb]; have := HB1.out.size; have := HSZ.out; omega)
  clear hb
  go_upto_region 12 with (first
    | (go_at_call 43
       refine (child_any g kd w0 pf xs ys w2 HL.out HK.out.1 HK.out.2 HBY.out HLY.out HR2.out).mono ?_
       rintro e w3 ⟨A, c, A', c', rfl, hx, hy, hfx, hfy, hb3⟩
       have BX3 : w3.heap[b]? = some (.cells #[.int .i64 kd, .int .u64 w0, .string pf, .slice none 0 0, .slice none 0 0] 28 (0, 0)) := (heap_below hb3 (lt_of_heap HBX2.out)).trans HBX2.out
       have BX4 : (w3.setCell ⟨b, 3, none⟩ (.slice A xs.length c)).heap[b]? = some (.cells #[.int .i64 kd, .int .u64 w0, .string pf, .slice A xs.length c, .slice none 0 0] 28 (0, 0)) := by simpa using heap_setCell_same _ _ 3 _ _ (.slice A xs.length c) BX3
       have BX5 : ((w3.setCell ⟨b, 3, none⟩ (.slice A xs.length c)).setCell ⟨b, 4, none⟩ (.slice A' xs.length c')).heap[b]? = some (.cells #[.int .i64 kd, .int .u64 w0, .string pf, .slice A xs.length c, .slice A' xs.length c'] 28 (0, 0)) := by simpa using heap_setCell_same _ _ 4 _ _ (.slice A' xs.length c') BX4
       have p3 := cell_of BX3 3
       have f3 := frozen_of BX3 3
       have p4 := cell_of BX4 4
       have f4 := frozen_of BX4 4
       have HB3 := Lib.hid hb3
       have HX3 := Lib.hid hx
       have HY3 := Lib.hid hy
       have HFX := Lib.hid hfx
       have HFY := Lib.hid hfy
       have HBX5 := Lib.hid BX5
       clear hb3 hx hy hfx hfy BX3 BX4 BX5)
    | fail)
  have HS4 : Hid (w2.heap.size ≤ ((w3.setCell ⟨b, 3, none⟩ (.slice A xs.length c)).setCell ⟨b, 4, none⟩ (.slice A' xs.length c')).heap.size) := Lib.hid (by simpa using HB3.out.size)
  have HB04 : Hid (Below wb.heap.size wb ((w3.setCell ⟨b, 3, none⟩ (.slice A xs.length c)).setCell ⟨b, 4, none⟩ (.slice A' xs.length c'))) := Lib.hid (HB12.out.trans (((HB3.out.mono (by have := HS2.out; have := HLB2.out; omega)).setCell (p := ⟨b, 3, none⟩) HLB2.out _).setCell (p := ⟨b, 4, none⟩) HLB2.out _))
  have HFF : ∀ k, w2.heap.size ≤ k → k < w3.heap.size → ((w3.setCell ⟨b, 3, none⟩ (.slice A xs.length c)).setCell ⟨b, 4, none⟩ (.slice A' xs.length c')).heap[k]? = w3.heap[k]? := fun k hk _ => by
    have := HS2.out
    exact heap_far (by show k ≠ b; omega) (heap_far (by show k ≠ b; omega) rfl)
  have HX4 := Lib.hid (reads_far HX3.out HFX.out (by simp) HFF)
  have HY4 := Lib.hid (reads_far HY3.out HFY.out (by simp) HFF)
  clear p3 f3 p4 f4 HFF HX3 HY3
  generalize (w3.setCell ⟨b, 3, none⟩ (.slice A xs.length c)).setCell ⟨b, 4, none⟩ (.slice A' xs.length c') = w4 at *
  have HR4 := Lib.hid (reads_on HR.out HB04.out)
  have HBX4 : Hid (w4.heap[w.heap.size]? = some (.cells #[.int .i64 0, .int .u64 0, .string ⟨#[]⟩, .slice none 0 0, .slice none 0 0] 28 (0, 0))) := Lib.hid ((heap_below HB04.out (lt_of_heap HBX.out)).trans HBX.out)
  have p0 := cell_of HBX5.out 0
  have p1 := cell_of HBX5.out 1
  have p2 := cell_of HBX5.out 2
  have p3 := cell_of HBX5.out 3
  have p4 := cell_of HBX5.out 4
  have HEQ : Value.bool (eqB (encW kd w0 pf xs ys xs.length) (encW kd w0 pf xs ys xs.length)) = Value.bool true := eqB_true rfl
  have HEQQ := Lib.hid HEQ
  clear HEQ
  go_upto_region 14 with (first
    | (go_at_call 23
       refine (enc_any kd w0 pf A c A' c' xs.length xs ys w4 HL.out HK.out.1 HK.out.2 HBY.out HX4.out HY4.out).mono ?_
       rintro e w5 ⟨g5, rfl, hg5, hwb5, hb5⟩
       have HW5 := Lib.hid (WB.whole (n := sizeN kd) hwb5 (encW_len kd w0 pf xs ys HL.out HK.out.1 HK.out.2))
       have HB5 := Lib.hid hb5
       clear hwb5 hb5 hg5)
    | (go_at_call 44
       refine (equal_any w5.heap.size _ _ (sizeN kd) (sizeN kd) _ _ (encW kd w0 pf xs ys xs.length) (encW kd w0 pf xs ys xs.length) w5 HW5.out (reads_on HR4.out HB5.out) (by omega) (by omega)).mono ?_
       rintro e w6 ⟨rfl, hb6⟩
       rw [HEQQ.out]
       have HB46 : Hid (Below w4.heap.size w4 w6) := Lib.hid (after HB5.out hb6)
       clear hb6)
    | fail)
  clear p0 p1 p2 p3 p4
  have HBX6 : Hid (w6.heap[b]? = some (.cells #[.int .i64 kd, .int .u64 w0, .string pf, .slice A xs.length c, .slice A' xs.length c'] 28 (0, 0))) := Lib.hid ((heap_below HB46.out (lt_of_heap HBX5.out)).trans HBX5.out)
  have BR : w6.heap[w.heap.size]? = some (.cells #[.int .i64 0, .int .u64 0, .string ⟨#[]⟩, .slice none 0 0, .slice none 0 0] 28 (0, 0)) := (heap_below HB46.out (lt_of_heap HBX4.out)).trans HBX4.out
  have p0 := cell_of HBX6.out 0
  have p1 := cell_of HBX6.out 1
  have p2 := cell_of HBX6.out 2
  have p3 := cell_of HBX6.out 3
  have p4 := cell_of HBX6.out 4
  have r0 := cell_of BR 0
  have r1 := cell_of BR 1
  have r2 := cell_of BR 2
  have r3 := cell_of BR 3
  have r4 := cell_of BR 4
  have s0 := frozen_of BR 0
  have s1 := frozen_of BR 1
  have s2 := frozen_of BR 2
  have s3 := frozen_of BR 3
  have s4 := frozen_of BR 4
  have HBR := Lib.hid BR
  clear BR
  go_wp2
  obtain ⟨w7, hw7⟩ : ∃ w7, ((((w6.setCell ⟨w.heap.size, 0, none⟩ (.int .i64 kd)).setCell ⟨w.heap.size, 1, none⟩ (.int .u64 w0)).setCell ⟨w.heap.size, 2, none⟩ (.string pf)).setCell ⟨w.heap.size, 3, none⟩ (.slice A xs.length c)).setCell ⟨w.heap.size, 4, none⟩ (.slice A' xs.length c') = w7 := ⟨_, rfl⟩
  have HRX : Hid (Reads w6 w6.heap.size 1 A xs.length (xs.map (Value.int .u8)) ∧ Reads w6 w6.heap.size 1 A' xs.length (ys.map (Value.int .i64))) := Lib.hid ⟨reads_on HX4.out HB46.out, reads_on HY4.out HB46.out⟩
  have HS7 : Hid (w7.heap.size = w6.heap.size) := Lib.hid (by rw [← hw7]; simp)
  have HF7 : ∀ k, w2.heap.size ≤ k → k < w6.heap.size → w7.heap[k]? = w6.heap[k]? := fun k hk _ => by
    have := HS2.out
    have := HLB.out
    rw [← hw7]
    exact heap_far (by show k ≠ w.heap.size; omega) (heap_far (by show k ≠ w.heap.size; omega) (heap_far (by show k ≠ w.heap.size; omega) (heap_far (by show k ≠ w.heap.size; omega) (heap_far (by show k ≠ w.heap.size; omega) rfl))))
  have HX7 := Lib.hid (reads_far HRX.out.1 HFX.out (by rw [HS7.out]; exact Nat.le_refl _) HF7)
  have HY7 := Lib.hid (reads_far HRX.out.2 HFY.out (by rw [HS7.out]; exact Nat.le_refl _) HF7)
  have HB07 : Hid (Below w.heap.size w w7) := Lib.hid (by
    rw [← hw7]
    have h0 : Below w.heap.size w w6 := (HBW.out.trans (HB04.out.mono HBW.out.size)).trans (HB46.out.mono (by have := HBW.out.size; have := HB04.out.size; omega))
    exact ((((h0.setCell (p := ⟨w.heap.size, 0, none⟩) (Nat.le_refl _) _).setCell (p := ⟨w.heap.size, 1, none⟩) (Nat.le_refl _) _).setCell (p := ⟨w.heap.size, 2, none⟩) (Nat.le_refl _) _).setCell (p := ⟨w.heap.size, 3, none⟩) (Nat.le_refl _) _).setCell (p := ⟨w.heap.size, 4, none⟩) (Nat.le_refl _) _)
  have BR7 : w7.heap[w.heap.size]? = some (.cells #[.int .i64 kd, .int .u64 w0, .string pf, .slice A xs.length c, .slice A' xs.length c'] 28 (0, 0)) := by
    have a1 := heap_setCell_same _ _ 0 _ _ (.int .i64 kd) HBR.out
    have a2 := heap_setCell_same _ _ 1 _ _ (.int .u64 w0) a1
    have a3 := heap_setCell_same _ _ 2 _ _ (.string pf) a2
    have a4 := heap_setCell_same _ _ 3 _ _ (.slice A xs.length c) a3
    have a5 := heap_setCell_same _ _ 4 _ _ (.slice A' xs.length c') a4
    rw [hw7] at a5
    simpa using a5
  rw [hw7]
  clear hw7 HF7 p0 p1 p2 p3 p4 r0 r1 r2 r3 r4 s0 s1 s2 s3 s4
  have p0 := cell_of BR7 0
  have p1 := cell_of BR7 1
  have p2 := cell_of BR7 2
  have p3 := cell_of BR7 3
  have p4 := cell_of BR7 4
  clear BR7
  exact bodyPost_ret (v := .tuple #[nodeV kd w0 pf A c A' c' xs.length, .bool true]) (by simp [results, Try.results25, go_sem, p0, p1, p2, p3, p4, nodeV]) rfl ⟨A, c, A', c', rfl, HX7.out, HY7.out, HB07.out⟩
/-! The words of a node tell it: two right nodes with the same words are the same; conditions: lengths. -/
theorem wd_inj {s t : ByteArray} {c : Nat} (h : s.size = t.size) (hc : s.size ≤ 8 * c) (e : wd s c s.size = wd t c t.size) : s = t := by
  have h1 := wd_str s c hc s.size (Nat.le_refl _)
  have h2 := wd_str t c (by omega) t.size (Nat.le_refl _)
  rw [e, h, h2, ← h] at h1
  rw [show s.extract 0 s.size = s from by simp, h, show t.extract 0 t.size = t from by simp] at h1
  exact h1.symm
theorem sn_inj {xs us : List Int} (hx : Byt xs) (hu : Byt us) (hl : xs.length = us.length) (h : strOfNums xs = strOfNums us) : xs = us := by
  apply List.ext_getElem hl
  intro i h1 h2
  have e1 := nums_back hx i h1
  have e2 := nums_back hu i h2
  rw [h, e2] at e1
  rw [List.getD_eq_getElem?_getD, List.getElem?_eq_getElem h2, List.getD_eq_getElem?_getD, List.getElem?_eq_getElem h1] at e1
  simpa using e1.symm
theorem kids_inj {N o : Nat} {w0 hd w1 hd1 : Int} {pf pf1 s s1 : ByteArray} {ys vs : List Int} {n : Nat} (hp : pf.size ≤ 12) (hp1 : pf1.size ≤ 12) (hs : 4 + cnt s.size ≤ o) (hs1 : 4 + cnt s1.size ≤ o) (ho : o + n ≤ N) (hy : ys.length = n) (hv : vs.length = n) (e : encS N w0 hd pf s o ys n = encS N w1 hd1 pf1 s1 o vs n) : ys = vs := by
  apply List.ext_getElem (by omega)
  intro i h1 h2
  have e1 := encS_kids N w0 hd pf s o ys n i hp hs ho (by omega)
  have e2 := encS_kids N w1 hd1 pf1 s1 o vs n i hp1 hs1 ho (by omega)
  rw [e, e2] at e1
  rw [List.getD_eq_getElem?_getD, List.getElem?_eq_getElem h2, List.getD_eq_getElem?_getD, List.getElem?_eq_getElem h1] at e1
  simpa using e1.symm
theorem str_inj {N o c : Nat} {w0 hd w1 hd1 : Int} {pf pf1 s s1 : ByteArray} {ys vs : List Int} {n : Nat} (hp : pf.size ≤ 12) (hp1 : pf1.size ≤ 12) (hz : s.size = s1.size) (hs : s.size ≤ 8 * c) (hc : 4 + c ≤ o) (ho : o + n ≤ N) (e : encS N w0 hd pf s o ys n = encS N w1 hd1 pf1 s1 o vs n) : s = s1 := by
  have e1 := encS_str N w0 hd pf s o ys n c hp hs hc ho
  have e2 := encS_str N w1 hd1 pf1 s1 o vs n c hp1 (by omega) hc ho
  rw [e, e2] at e1
  exact wd_inj hz hs e1.symm
theorem kids_ne {ys : List Int} (h : Refs ys) : ∀ y ∈ ys, y ≠ 0 := fun y hy => by
  obtain ⟨i, hi, e⟩ := List.getElem_of_mem hy
  obtain ⟨s, g, l, e1, q0, q1, q2, q3⟩ := h i hi
  rw [List.getD_eq_getElem?_getD, List.getElem?_eq_getElem hi, e] at e1
  simp only [Option.getD_some] at e1
  rw [e1]; unfold refV; split <;> omega
theorem encW_inj {kd w0 kd1 w1 : Int} {pf pf1 : ByteArray} {xs ys us vs : List Int} (h : NodeL kd w0 pf xs ys xs.length) (h' : NodeL kd1 w1 pf1 us vs us.length) (k1 : 1 ≤ kd) (k4 : kd ≤ 4) (k1' : 1 ≤ kd1) (k4' : kd1 ≤ 4) (hb : Byt xs) (hb' : Byt us) (hl : ys.length = xs.length) (hl' : vs.length = us.length) (hn : xs.length ≤ 256) (hn' : us.length ≤ 256)
    (e : encW kd w0 pf xs ys xs.length = encW kd1 w1 pf1 us vs us.length) : kd = kd1 ∧ w0 = w1 ∧ pf = pf1 ∧ xs = us ∧ ys = vs := by
  have H := encW_head kd w0 pf xs ys h k1 k4 hb
  have H' := encW_head kd1 w1 pf1 us vs h' k1' k4' hb'
  have hp := h.pref
  have hp' := h'.pref
  rw [e] at H
  have ew : w0 = w1 := H.e0.symm.trans H'.e0
  have eh : hdW kd pf.size xs.length = hdW kd1 pf1.size us.length := H.e1.symm.trans H'.e1
  have a1 := hd_kind kd pf.size xs.length (by omega) (by omega) (by omega) (by omega)
  have a2 := hd_kind kd1 pf1.size us.length (by omega) (by omega) (by omega) (by omega)
  have a3 := hd_count kd pf.size xs.length (by omega) (by omega) (by omega) (by omega)
  have a4 := hd_count kd1 pf1.size us.length (by omega) (by omega) (by omega) (by omega)
  have a5 := hd_pref kd pf.size xs.length (by omega) (by omega) (by omega) (by omega)
  have a6 := hd_pref kd1 pf1.size us.length (by omega) (by omega) (by omega) (by omega)
  rw [eh] at a1 a3 a5
  have ek : kd = kd1 := a1.symm.trans a2
  have en : xs.length = us.length := by have := a3.symm.trans a4; omega
  have es : pf.size = pf1.size := by have := a5.symm.trans a6; omega
  have ep : pf = pf1 := wd_inj (c := 2) es (by omega) (H.pre.symm.trans H'.pre)
  subst ek ew ep
  refine ⟨rfl, rfl, rfl, ?_⟩
  have hh := h.high
  rcases (show kd = 1 ∨ kd = 2 ∨ kd = 3 ∨ kd = 4 by omega) with rfl | rfl | rfl | rfl
  · have n4 : xs.length ≤ 4 := by simp [highV] at hh; omega
    have s1 : (strOfNums xs).size = xs.length := strOfNums_size xs
    have s2 : (strOfNums us).size = us.length := strOfNums_size us
    have e' : encS 12 w0 (hdW 1 pf.size xs.length) pf (strOfNums xs) 5 ys xs.length = encS 12 w0 (hdW 1 pf.size us.length) pf (strOfNums us) 5 vs xs.length := by
      have e0 : encS 12 w0 (hdW 1 pf.size xs.length) pf (strOfNums xs) 5 ys xs.length = encS 12 w0 (hdW 1 pf.size us.length) pf (strOfNums us) 5 vs us.length := e
      rw [e0, en]
    exact ⟨sn_inj hb hb' en (str_inj (c := 1) hp hp (by omega) (by omega) (by omega) (by omega) e'), kids_inj hp hp (by rw [s1]; unfold cnt; omega) (by rw [s2]; unfold cnt; omega) (by omega) hl (by omega) e'⟩
  · have n4 : xs.length ≤ 16 := by simp [highV] at hh; omega
    have s1 : (strOfNums xs).size = xs.length := strOfNums_size xs
    have s2 : (strOfNums us).size = us.length := strOfNums_size us
    have e' : encS 24 w0 (hdW 2 pf.size xs.length) pf (strOfNums xs) 6 ys xs.length = encS 24 w0 (hdW 2 pf.size us.length) pf (strOfNums us) 6 vs xs.length := by
      have e0 : encS 24 w0 (hdW 2 pf.size xs.length) pf (strOfNums xs) 6 ys xs.length = encS 24 w0 (hdW 2 pf.size us.length) pf (strOfNums us) 6 vs us.length := e
      rw [e0, en]
    exact ⟨sn_inj hb hb' en (str_inj (c := 2) hp hp (by omega) (by omega) (by omega) (by omega) e'), kids_inj hp hp (by rw [s1]; unfold cnt; omega) (by rw [s2]; unfold cnt; omega) (by omega) hl (by omega) e'⟩
  · have n4 : xs.length ≤ 48 := by simp [highV] at hh; omega
    have s1 : (strOfNums (plc xs xs.length)).size = 256 := by rw [strOfNums_size, plc_len]
    have s2 : (strOfNums (plc us us.length)).size = 256 := by rw [strOfNums_size, plc_len]
    have e' : encS 88 w0 (hdW 3 pf.size xs.length) pf (strOfNums (plc xs xs.length)) 36 ys xs.length = encS 88 w0 (hdW 3 pf.size us.length) pf (strOfNums (plc us us.length)) 36 vs xs.length := by
      have e0 : encS 88 w0 (hdW 3 pf.size xs.length) pf (strOfNums (plc xs xs.length)) 36 ys xs.length = encS 88 w0 (hdW 3 pf.size us.length) pf (strOfNums (plc us us.length)) 36 vs us.length := e
      rw [e0, en]
    have hpl : plc xs xs.length = plc us us.length := sn_inj (plc_byt xs n4) (plc_byt us (by omega)) (by rw [plc_len, plc_len]) (str_inj (c := 32) hp hp (by omega) (by omega) (by omega) (by omega) e')
    refine ⟨?_, kids_inj hp hp (by rw [s1]; unfold cnt; omega) (by rw [s2]; unfold cnt; omega) (by omega) hl (by omega) e'⟩
    have m1 := marked_places hb (asc_pw h.asc)
    have m2 := marked_places hb' (asc_pw h'.asc)
    rw [hpl] at m1
    exact m1.symm.trans m2
  · have e0 : encZ w0 (hdW 4 pf.size xs.length) pf xs ys xs.length = encZ w0 (hdW 4 pf.size us.length) pf us vs us.length := e
    have m1 := encZ_keys w0 (hdW 4 pf.size xs.length) pf xs ys hp hb (asc_pw h.asc) hl (kids_ne h.refs)
    have m2 := encZ_keys w0 (hdW 4 pf.size us.length) pf us vs hp hb' (asc_pw h'.asc) hl' (kids_ne h'.refs)
    have m3 := encZ_kids w0 (hdW 4 pf.size xs.length) pf xs ys hp hb (asc_pw h.asc) hl (kids_ne h.refs)
    have m4 := encZ_kids w0 (hdW 4 pf.size us.length) pf us vs hp hb' (asc_pw h'.asc) hl' (kids_ne h'.refs)
    rw [e0] at m1 m3
    exact ⟨m1.symm.trans m2, m3.symm.trans m4⟩
theorem words_tell {kd w0 kd1 w1 : Int} {pf pf1 : ByteArray} {xs ys us vs : List Int} (h : NodeL kd w0 pf xs ys xs.length) (h' : NodeL kd1 w1 pf1 us vs us.length) (k1 : 1 ≤ kd) (k4 : kd ≤ 4) (k1' : 1 ≤ kd1) (k4' : kd1 ≤ 4) (hb : Byt xs) (hb' : Byt us) (hl : ys.length = xs.length) (hl' : vs.length = us.length) (hn : xs.length ≤ 256) (hn' : us.length ≤ 256) :
    eqB (encW kd w0 pf xs ys xs.length) (encW kd1 w1 pf1 us vs us.length) = (decide (kd = kd1) && decide (w0 = w1) && decide (pf = pf1) && decide (xs = us) && decide (ys = vs)) := by
  unfold eqB
  rw [Bool.eq_iff_iff]
  simp only [decide_eq_true_eq, Bool.and_eq_true]
  constructor
  · intro e
    obtain ⟨a, b, c, d, f⟩ := encW_inj h h' k1 k4 k1' k4' hb hb' hl hl' hn hn' e
    exact ⟨⟨⟨⟨a, b⟩, c⟩, d⟩, f⟩
  · rintro ⟨⟨⟨⟨rfl, rfl⟩, rfl⟩, rfl⟩, rfl⟩
    rfl
/-! A region of drawn order by an invariant; a node's parts in a bundle; no condition. -/
/-- WHATEVER ORDER IS PICKED: an invariant over what has come up (k operations are left). -/
theorem wpAny_inv {P : Program} {md : Region.Mode} {ops : Array Oper} {Q : Exit → Act → World → Prop} {I : Nat → Array Bool → Act → World → Prop}
    (fin : ∀ k l a w, I k l a w → Region.ready md ops l = [] → Q .normal a w)
    (zero : ∀ l a w, I 0 l a w → Region.ready md ops l = [])
    (step : ∀ k l a w, I (k + 1) l a w → ∀ i ∈ Region.ready md ops l, wpOp P ops Q i (fun a' w' => I k (l.setIfInBounds i true) a' w') a w) :
    ∀ k l a w, I k l a w → wpAny P md ops Q k l a w
  | 0, l, a, w, h => ⟨zero l a w h, fin 0 l a w h (zero l a w h)⟩
  | k + 1, l, a, w, h => ⟨fin (k + 1) l a w h, fun i hi => wpOp_mono (fun a' w' h' => wpAny_inv fin zero step k _ a' w' h') (step k l a w h i hi)⟩
/-- A node's parts. -/
structure NP where
  kd : Int
  wd : Int
  pf : ByteArray
  A : Option Addr
  c : Nat
  A' : Option Addr
  c' : Nat
  n : Nat
  xs : List Int
  ys : List Int
def NP.cells (p : NP) : Array Value := #[.int .i64 p.kd, .int .u64 p.wd, .string p.pf, .slice p.A p.n p.c, .slice p.A' p.n p.c']
def NP.val (p : NP) : Value := .agg #[.int .i64 p.kd, .int .u64 p.wd, .string p.pf, .slice p.A p.n p.c, .slice p.A' p.n p.c']
structure NP.Ok (B : Nat) (p : NP) (w : World) : Prop where
  nl : NodeL p.kd p.wd p.pf p.xs p.ys p.n
  hn : p.n ≤ 256
  byt : Byt p.xs
  k1 : 1 ≤ p.kd
  k4 : p.kd ≤ 4
  x : Mid w B 5 1 (.slice p.A p.n p.c) p.n (p.xs.map (Value.int .u8))
  y : Mid w B 3 1 (.slice p.A' p.n p.c') p.n (p.ys.map (Value.int .i64))
theorem NP.Ok.keep {B : Nat} {p : NP} {w w' : World} (h : p.Ok B w) (k : Below w.heap.size w w') : p.Ok B w' :=
  ⟨h.nl, h.hn, h.byt, h.k1, h.k4, h.x.same fun g hg => heap_below k (h.x.lt g hg).2, h.y.same fun g hg => heap_below k (h.y.lt g hg).2⟩
theorem NP.Ok.put {B q : Nat} {p r : NP} {w : World} {cs : Array Value} (h : p.Ok B w) (hb : w.heap[q]? = some (.cells cs 28 (0, 0))) : p.Ok B (put5 w q r.kd r.wd r.pf r.A r.c r.A' r.c' r.n) :=
  ⟨h.nl, h.hn, h.byt, h.k1, h.k4, h.x.same fun j hj => put5_far (h.x.nobox hb (by decide) hj), h.y.same fun j hj => put5_far (h.y.nobox hb (by decide) hj)⟩
def zc : Array Value := #[.int .i64 0, .int .u64 0, .string ⟨#[]⟩, .slice none 0 0, .slice none 0 0]
def boxC (s : Bool) (p : NP) : Array Value := if s = true then p.cells else zc
structure Bk (wb : World) (K0 K1 : Value) (c0 c1 c2 c3 c4 c5 c6 c7 : Bool) (v9 v10 v11 v12 v5 v6 : Value) (q5 q6 : Nat) (pa pb : NP) (w : World) : Prop where
  bel : Below wb.heap.size wb w
  l0 : c0 = true → v9 = K0
  l2 : c2 = true → v11 = K1
  a_ : c1 = true → v10 = pa.val ∧ pa.Ok wb.heap.size w
  b_ : c3 = true → v12 = pb.val ∧ pb.Ok wb.heap.size w
  x_ : c4 = true → v5 = .pointer (some ⟨q5, 0, none⟩) ∧ wb.heap.size ≤ q5 ∧ w.heap[q5]? = some (.cells (boxC c6 pa) 28 (0, 0))
  y_ : c5 = true → v6 = .pointer (some ⟨q6, 0, none⟩) ∧ wb.heap.size ≤ q6 ∧ w.heap[q6]? = some (.cells (boxC c7 pb) 28 (0, 0))
  ne : c4 = true → c5 = true → q5 ≠ q6
  o6 : c1 = false → c6 = false
  o7 : c3 = false → c7 = false
  o4 : c4 = false → c6 = false
  o5 : c5 = false → c7 = false
theorem Bk.keep {wb : World} {K0 K1 : Value} {c0 c1 c2 c3 c4 c5 c6 c7 : Bool} {v9 v10 v11 v12 v5 v6 : Value} {q5 q6 : Nat} {pa pb : NP} {w w' : World} (h : Bk wb K0 K1 c0 c1 c2 c3 c4 c5 c6 c7 v9 v10 v11 v12 v5 v6 q5 q6 pa pb w) (k : Below w.heap.size w w') :
    Bk wb K0 K1 c0 c1 c2 c3 c4 c5 c6 c7 v9 v10 v11 v12 v5 v6 q5 q6 pa pb w' :=
  ⟨after h.bel k, h.l0, h.l2, fun e => ⟨(h.a_ e).1, (h.a_ e).2.keep k⟩, fun e => ⟨(h.b_ e).1, (h.b_ e).2.keep k⟩,
    fun e => ⟨(h.x_ e).1, (h.x_ e).2.1, (heap_below k (lt_of_heap (h.x_ e).2.2)).trans (h.x_ e).2.2⟩, fun e => ⟨(h.y_ e).1, (h.y_ e).2.1, (heap_below k (lt_of_heap (h.y_ e).2.2)).trans (h.y_ e).2.2⟩, h.ne, h.o6, h.o7, h.o4, h.o5⟩
theorem below_put5 {B q : Nat} {w w' : World} (h : Below B w w') (hq : B ≤ q) (p : NP) : Below B w (put5 w' q p.kd p.wd p.pf p.A p.c p.A' p.c' p.n) :=
  ((((h.setCell (p := ⟨q, 0, none⟩) hq _).setCell (p := ⟨q, 1, none⟩) hq _).setCell (p := ⟨q, 2, none⟩) hq _).setCell (p := ⟨q, 3, none⟩) hq _).setCell (p := ⟨q, 4, none⟩) hq _
noncomputable def ops7 : Array Oper := match Try.f7.body with
  | some (.seq _ (.seq (.region _ ops _) _)) => ops
  | _ => #[]
def chk7 (i : Nat) (c0 c1 c2 c3 c4 c5 c6 c7 : Bool) : Bool :=
  (i == 0 && !c0) || (i == 1 && !c1 && c0) || (i == 2 && !c2) || (i == 3 && !c3 && c2 && c1) || (i == 4 && !c4) || (i == 5 && !c5) || (i == 6 && !c6 && c0 && c1 && c3 && c4 && c5) || (i == 7 && !c7 && c0 && c1 && c2 && c3 && c4 && c5 && c6)
set_option maxRecDepth 100000 in
theorem rdy7 : ∀ c0 c1 c2 c3 c4 c5 c6 c7 : Bool, ((Region.ready .any ops7 #[c0, c1, c2, c3, c4, c5, c6, c7]).all fun i => chk7 i c0 c1 c2 c3 c4 c5 c6 c7) = true := by
  intro c0 c1 c2 c3 c4 c5 c6 c7
  cases c0 <;> cases c1 <;> cases c2 <;> cases c3 <;> cases c4 <;> cases c5 <;> cases c6 <;> cases c7 <;> kernel_rfl
set_option maxRecDepth 100000 in
theorem rdy7_end : ∀ c0 c1 c2 c3 c4 c5 c6 c7 : Bool, ((Region.ready .any ops7 #[c0, c1, c2, c3, c4, c5, c6, c7]).isEmpty == (c0 && c1 && c2 && c3 && c4 && c5 && c6 && c7)) = true := by
  intro c0 c1 c2 c3 c4 c5 c6 c7
  cases c0 <;> cases c1 <;> cases c2 <;> cases c3 <;> cases c4 <;> cases c5 <;> cases c6 <;> cases c7 <;> kernel_rfl
theorem Bk.setk0 {wb : World} {K0 K1 : Value} {c0 c1 c2 c3 c4 c5 c6 c7 : Bool} {v9 v10 v11 v12 v5 v6 : Value} {q5 q6 : Nat} {pa pb : NP} {w : World} (h : Bk wb K0 K1 c0 c1 c2 c3 c4 c5 c6 c7 v9 v10 v11 v12 v5 v6 q5 q6 pa pb w) : Bk wb K0 K1 true c1 c2 c3 c4 c5 c6 c7 K0 v10 v11 v12 v5 v6 q5 q6 pa pb w := ⟨h.bel, fun _ => rfl, h.l2, h.a_, h.b_, h.x_, h.y_, h.ne, h.o6, h.o7, h.o4, h.o5⟩
theorem Bk.setk1 {wb : World} {K0 K1 : Value} {c0 c1 c2 c3 c4 c5 c6 c7 : Bool} {v9 v10 v11 v12 v5 v6 : Value} {q5 q6 : Nat} {pa pb : NP} {w : World} (h : Bk wb K0 K1 c0 c1 c2 c3 c4 c5 c6 c7 v9 v10 v11 v12 v5 v6 q5 q6 pa pb w) : Bk wb K0 K1 c0 c1 true c3 c4 c5 c6 c7 v9 v10 K1 v12 v5 v6 q5 q6 pa pb w := ⟨h.bel, h.l0, fun _ => rfl, h.a_, h.b_, h.x_, h.y_, h.ne, h.o6, h.o7, h.o4, h.o5⟩
theorem Bk.seta {wb : World} {K0 K1 : Value} {c0 c2 c3 c4 c5 c6 c7 : Bool} {v9 v10 v11 v12 v5 v6 : Value} {q5 q6 : Nat} {pa pb : NP} {w : World} (h : Bk wb K0 K1 c0 false c2 c3 c4 c5 c6 c7 v9 v10 v11 v12 v5 v6 q5 q6 pa pb w) (p : NP) (hp : p.Ok wb.heap.size w) : Bk wb K0 K1 c0 true c2 c3 c4 c5 c6 c7 v9 p.val v11 v12 v5 v6 q5 q6 p pb w := by
  have e : c6 = false := h.o6 rfl
  subst e
  exact ⟨h.bel, h.l0, h.l2, fun _ => ⟨rfl, hp⟩, h.b_, h.x_, h.y_, h.ne, fun _ => rfl, h.o7, h.o4, h.o5⟩
theorem Bk.setb {wb : World} {K0 K1 : Value} {c0 c1 c2 c4 c5 c6 c7 : Bool} {v9 v10 v11 v12 v5 v6 : Value} {q5 q6 : Nat} {pa pb : NP} {w : World} (h : Bk wb K0 K1 c0 c1 c2 false c4 c5 c6 c7 v9 v10 v11 v12 v5 v6 q5 q6 pa pb w) (p : NP) (hp : p.Ok wb.heap.size w) : Bk wb K0 K1 c0 c1 c2 true c4 c5 c6 c7 v9 v10 v11 p.val v5 v6 q5 q6 pa p w := by
  have e : c7 = false := h.o7 rfl
  subst e
  exact ⟨h.bel, h.l0, h.l2, h.a_, fun _ => ⟨rfl, hp⟩, h.x_, h.y_, h.ne, h.o6, fun _ => rfl, h.o4, h.o5⟩
theorem Bk.new5 {wb : World} {K0 K1 : Value} {c0 c1 c2 c3 c5 c6 c7 : Bool} {v9 v10 v11 v12 v5 v6 : Value} {q5 q6 : Nat} {pa pb : NP} {w : World} (h : Bk wb K0 K1 c0 c1 c2 c3 false c5 c6 c7 v9 v10 v11 v12 v5 v6 q5 q6 pa pb w) : Bk wb K0 K1 c0 c1 c2 c3 true c5 c6 c7 v9 v10 v11 v12 (.pointer (some ⟨w.heap.size, 0, none⟩)) v6 w.heap.size q6 pa pb (w.alloc (.cells zc 28)) := by
  have e : c6 = false := h.o4 rfl
  subst e
  have k := h.keep ((Below.refl w.heap.size w).alloc (Nat.le_refl _) (.cells zc 28))
  exact ⟨k.bel, k.l0, k.l2, k.a_, k.b_, fun _ => ⟨rfl, h.bel.size, heap_alloc_new _ _⟩, k.y_, fun _ e5 => by have := lt_of_heap (h.y_ e5).2.2; omega, k.o6, k.o7, fun _ => rfl, k.o5⟩
theorem Bk.new6 {wb : World} {K0 K1 : Value} {c0 c1 c2 c3 c4 c6 c7 : Bool} {v9 v10 v11 v12 v5 v6 : Value} {q5 q6 : Nat} {pa pb : NP} {w : World} (h : Bk wb K0 K1 c0 c1 c2 c3 c4 false c6 c7 v9 v10 v11 v12 v5 v6 q5 q6 pa pb w) : Bk wb K0 K1 c0 c1 c2 c3 c4 true c6 c7 v9 v10 v11 v12 v5 (.pointer (some ⟨w.heap.size, 0, none⟩)) q5 w.heap.size pa pb (w.alloc (.cells zc 28)) := by
  have e : c7 = false := h.o5 rfl
  subst e
  have k := h.keep ((Below.refl w.heap.size w).alloc (Nat.le_refl _) (.cells zc 28))
  exact ⟨k.bel, k.l0, k.l2, k.a_, k.b_, k.x_, fun _ => ⟨rfl, h.bel.size, heap_alloc_new _ _⟩, fun e4 _ => by have := lt_of_heap (h.x_ e4).2.2; omega, k.o6, k.o7, k.o4, fun _ => rfl⟩
theorem Bk.str6 {wb : World} {K0 K1 : Value} {c0 c2 c3 c5 c7 : Bool} {v9 v10 v11 v12 v5 v6 : Value} {q5 q6 : Nat} {pa pb : NP} {w : World} (h : Bk wb K0 K1 c0 true c2 c3 true c5 false c7 v9 v10 v11 v12 v5 v6 q5 q6 pa pb w) : Bk wb K0 K1 c0 true c2 c3 true c5 true c7 v9 v10 v11 v12 v5 v6 q5 q6 pa pb (put5 w q5 pa.kd pa.wd pa.pf pa.A pa.c pa.A' pa.c' pa.n) := by
  have x := h.x_ rfl
  exact ⟨below_put5 h.bel x.2.1 pa, h.l0, h.l2, fun e => ⟨(h.a_ e).1, (h.a_ e).2.put x.2.2⟩, fun e => ⟨(h.b_ e).1, (h.b_ e).2.put x.2.2⟩, fun e => ⟨x.1, x.2.1, put5_self x.2.2⟩,
    fun e => ⟨(h.y_ e).1, (h.y_ e).2.1, (put5_far (h.ne rfl e).symm).trans (h.y_ e).2.2⟩, h.ne, (fun e => by cases e), h.o7, (fun e => by cases e), h.o5⟩
theorem Bk.str7 {wb : World} {K0 K1 : Value} {c0 c1 c2 c4 c6 : Bool} {v9 v10 v11 v12 v5 v6 : Value} {q5 q6 : Nat} {pa pb : NP} {w : World} (h : Bk wb K0 K1 c0 c1 c2 true c4 true c6 false v9 v10 v11 v12 v5 v6 q5 q6 pa pb w) : Bk wb K0 K1 c0 c1 c2 true c4 true c6 true v9 v10 v11 v12 v5 v6 q5 q6 pa pb (put5 w q6 pb.kd pb.wd pb.pf pb.A pb.c pb.A' pb.c' pb.n) := by
  have x := h.y_ rfl
  exact ⟨below_put5 h.bel x.2.1 pb, h.l0, h.l2, fun e => ⟨(h.a_ e).1, (h.a_ e).2.put x.2.2⟩, fun e => ⟨(h.b_ e).1, (h.b_ e).2.put x.2.2⟩, fun e => ⟨(h.x_ e).1, (h.x_ e).2.1, (put5_far (h.ne e rfl)).trans (h.x_ e).2.2⟩,
    fun e => ⟨x.1, x.2.1, put5_self x.2.2⟩, h.ne, h.o6, (fun e => by cases e), h.o4, (fun e => by cases e)⟩
def act7 (K0 K1 : Value) (N : Nat) (v9 v10 v11 v12 v5 v6 : Value) : Act :=
  { tmps := #[K0, K1, .pointer (some ⟨N, 0, none⟩), .pointer (some ⟨N + 1, 0, none⟩), .bool false, v5, v6, undef, undef, v9, v10, v11, v12, undef, undef, undef, undef, undef, undef, undef, undef, undef, undef, undef, undef, undef, undef, undef, undef, undef, undef, undef, undef, undef, undef, undef, undef, undef, undef, undef, undef, undef, undef], defers := [] }
def cntF (c0 c1 c2 c3 c4 c5 c6 c7 : Bool) : Nat := (!c0).toNat + (!c1).toNat + (!c2).toNat + (!c3).toNat + (!c4).toNat + (!c5).toNat + (!c6).toNat + (!c7).toNat
def Inv7 (wb : World) (K0 K1 : Value) (N : Nat) (k : Nat) (l : Array Bool) (a : Act) (w : World) : Prop :=
  ∃ c0 c1 c2 c3 c4 c5 c6 c7 v9 v10 v11 v12 v5 v6 q5 q6 pa pb, l = #[c0, c1, c2, c3, c4, c5, c6, c7] ∧ k = cntF c0 c1 c2 c3 c4 c5 c6 c7 ∧ a = act7 K0 K1 N v9 v10 v11 v12 v5 v6 ∧ Bk wb K0 K1 c0 c1 c2 c3 c4 c5 c6 c7 v9 v10 v11 v12 v5 v6 q5 q6 pa pb w
theorem chk7_or {i : Nat} {c0 c1 c2 c3 c4 c5 c6 c7 : Bool} (h : chk7 i c0 c1 c2 c3 c4 c5 c6 c7 = true) :
    (i = 0 ∧ c0 = false) ∨ (i = 1 ∧ c1 = false ∧ c0 = true) ∨ (i = 2 ∧ c2 = false) ∨ (i = 3 ∧ c3 = false ∧ c2 = true ∧ c1 = true) ∨ (i = 4 ∧ c4 = false) ∨ (i = 5 ∧ c5 = false) ∨ (i = 6 ∧ c6 = false ∧ c1 = true ∧ c4 = true) ∨ (i = 7 ∧ c7 = false ∧ c3 = true ∧ c5 = true) := by
  unfold chk7 at h
  simp only [Bool.or_eq_true, Bool.and_eq_true, Bool.not_eq_true', beq_iff_eq] at h
  rcases h with (((((((h | h) | h) | h) | h) | h) | h) | h)
  · exact .inl h
  · exact .inr (.inl ⟨h.1.1, h.1.2, h.2⟩)
  · exact .inr (.inr (.inl h))
  · exact .inr (.inr (.inr (.inl ⟨h.1.1.1, h.1.1.2, h.1.2, h.2⟩)))
  · exact .inr (.inr (.inr (.inr (.inl h))))
  · exact .inr (.inr (.inr (.inr (.inr (.inl h)))))
  · exact .inr (.inr (.inr (.inr (.inr (.inr (.inl ⟨h.1.1.1.1.1.1, h.1.1.1.1.1.2, h.1.1.1.2, h.1.2⟩))))))
  · exact .inr (.inr (.inr (.inr (.inr (.inr (.inr ⟨h.1.1.1.1.1.1.1.1, h.1.1.1.1.1.1.1.2, h.1.1.1.2, h.1.2⟩))))))
/-! The law NodeBack at any numbers: the walk; conditions: the arguments are what their types allow. -/
/-- Three nodes in boxes, and their rows. -/
structure S3 (q5 q6 q7 : Nat) (pa pb px : NP) (w : World) : Prop where
  ba : w.heap[q5]? = some (.cells #[.int .i64 pa.kd, .int .u64 pa.wd, .string pa.pf, .slice pa.A pa.n pa.c, .slice pa.A' pa.n pa.c'] 28 (0, 0))
  bb : w.heap[q6]? = some (.cells #[.int .i64 pb.kd, .int .u64 pb.wd, .string pb.pf, .slice pb.A pb.n pb.c, .slice pb.A' pb.n pb.c'] 28 (0, 0))
  bx : w.heap[q7]? = some (.cells #[.int .i64 px.kd, .int .u64 px.wd, .string px.pf, .slice px.A px.n px.c, .slice px.A' px.n px.c'] 28 (0, 0))
  xa : Reads w w.heap.size 1 pa.A pa.n (pa.xs.map (Value.int .u8))
  ya : Reads w w.heap.size 1 pa.A' pa.n (pa.ys.map (Value.int .i64))
  xb : Reads w w.heap.size 1 pb.A pb.n (pb.xs.map (Value.int .u8))
  yb : Reads w w.heap.size 1 pb.A' pb.n (pb.ys.map (Value.int .i64))
  xx : Reads w w.heap.size 1 px.A px.n (px.xs.map (Value.int .u8))
  yx : Reads w w.heap.size 1 px.A' px.n (px.ys.map (Value.int .i64))
theorem S3.keep {q5 q6 q7 : Nat} {pa pb px : NP} {w w' : World} (h : S3 q5 q6 q7 pa pb px w) (k : Below w.heap.size w w') : S3 q5 q6 q7 pa pb px w' :=
  ⟨(heap_below k (lt_of_heap h.ba)).trans h.ba, (heap_below k (lt_of_heap h.bb)).trans h.bb, (heap_below k (lt_of_heap h.bx)).trans h.bx, reads_on h.xa k, reads_on h.ya k, reads_on h.xb k, reads_on h.yb k, reads_on h.xx k, reads_on h.yx k⟩
theorem S3.cells {q5 q6 q7 : Nat} {pa pb px : NP} {w : World} (h : S3 q5 q6 q7 pa pb px w) : w.cell? ⟨q5, 0, none⟩ = some (.int .i64 pa.kd) ∧ w.cell? ⟨q5, 1, none⟩ = some (.int .u64 pa.wd) ∧ w.cell? ⟨q5, 2, none⟩ = some (.string pa.pf) ∧ w.cell? ⟨q5, 3, none⟩ = some (.slice pa.A pa.n pa.c) ∧ w.cell? ⟨q5, 4, none⟩ = some (.slice pa.A' pa.n pa.c') ∧ w.cell? ⟨q6, 0, none⟩ = some (.int .i64 pb.kd) ∧ w.cell? ⟨q6, 1, none⟩ = some (.int .u64 pb.wd) ∧ w.cell? ⟨q6, 2, none⟩ = some (.string pb.pf) ∧ w.cell? ⟨q6, 3, none⟩ = some (.slice pb.A pb.n pb.c) ∧ w.cell? ⟨q6, 4, none⟩ = some (.slice pb.A' pb.n pb.c') ∧ w.cell? ⟨q7, 0, none⟩ = some (.int .i64 px.kd) ∧ w.cell? ⟨q7, 1, none⟩ = some (.int .u64 px.wd) ∧ w.cell? ⟨q7, 2, none⟩ = some (.string px.pf) ∧ w.cell? ⟨q7, 3, none⟩ = some (.slice px.A px.n px.c) ∧ w.cell? ⟨q7, 4, none⟩ = some (.slice px.A' px.n px.c') := ⟨cell_of h.ba 0, cell_of h.ba 1, cell_of h.ba 2, cell_of h.ba 3, cell_of h.ba 4, cell_of h.bb 0, cell_of h.bb 1, cell_of h.bb 2, cell_of h.bb 3, cell_of h.bb 4, cell_of h.bx 0, cell_of h.bx 1, cell_of h.bx 2, cell_of h.bx 3, cell_of h.bx 4⟩
set_option maxRecDepth 100000 in
set_option maxHeartbeats 6400000 in
theorem back_any (kk0 ww0 : Int) (pf0 : ByteArray) (A0 : Option Addr) (n0 c0 : Nat) (xs0 : List Int) (fr0 : Int) (kk1 ww1 : Int) (pf1 : ByteArray) (A1 : Option Addr) (n1 c1 : Nat) (xs1 : List Int) (fr1 : Int) (w : World)
    (hx0 : Reads w w.heap.size 1 A0 n0 (xs0.map (Value.int .u8))) (hb0 : Byt xs0) (hn0 : n0 ≤ maxLen) (hp0 : pf0.size ≤ maxLen) (hw00 : 0 ≤ ww0) (hw01 : ww0 < 18446744073709551616)
    (hx1 : Reads w w.heap.size 1 A1 n1 (xs1.map (Value.int .u8))) (hb1 : Byt xs1) (hn1 : n1 ≤ maxLen) (hp1 : pf1.size ≤ maxLen) (hw10 : 0 ≤ ww1) (hw11 : ww1 < 18446744073709551616) :
    Calls Try.prog 7 #[.agg #[.int .i64 kk0, .int .u64 ww0, .string pf0, .slice A0 n0 c0, .int .i64 fr0], .agg #[.int .i64 kk1, .int .u64 ww1, .string pf1, .slice A1 n1 c1, .int .i64 fr1]] w fun e w' => e = .returned (.bool true) ∧ Below w.heap.size w w' := by
  obtain ⟨wb, hwb⟩ : ∃ wb, (w.alloc (.cells #[.int .i64 kk0, .int .u64 ww0, .string pf0, .slice A0 n0 c0, .int .i64 fr0] 25)).alloc (.cells #[.int .i64 kk1, .int .u64 ww1, .string pf1, .slice A1 n1 c1, .int .i64 fr1] 25) = wb := ⟨_, rfl⟩
  have HBW : Hid (Below w.heap.size w wb) := Lib.hid (by rw [← hwb]; exact ((Below.refl _ _).alloc (Nat.le_refl _) _).alloc (by simp) _)
  have b0 : wb.heap[w.heap.size]? = some (.cells #[.int .i64 kk0, .int .u64 ww0, .string pf0, .slice A0 n0 c0, .int .i64 fr0] 25 (0, 0)) := by rw [← hwb, heap_alloc_old _ _ (by simp)]; exact heap_alloc_new _ _
  have b1 : wb.heap[w.heap.size + 1]? = some (.cells #[.int .i64 kk1, .int .u64 ww1, .string pf1, .slice A1 n1 c1, .int .i64 fr1] 25 (0, 0)) := by
    rw [← hwb]
    have := heap_alloc_new (w.alloc (.cells #[.int .i64 kk0, .int .u64 ww0, .string pf0, .slice A0 n0 c0, .int .i64 fr0] 25)) (.cells #[.int .i64 kk1, .int .u64 ww1, .string pf1, .slice A1 n1 c1, .int .i64 fr1] 25)
    simpa using this
  have HSB : Hid (wb.heap.size = w.heap.size + 2) := Lib.hid (by rw [← hwb]; simp)
  have HB0 := Lib.hid b0
  have HB1 := Lib.hid b1
  have HX0 : Hid (Reads wb wb.heap.size 1 A0 n0 (xs0.map (Value.int .u8))) := Lib.hid (reads_on hx0 HBW.out)
  have HX1 : Hid (Reads wb wb.heap.size 1 A1 n1 (xs1.map (Value.int .u8))) := Lib.hid (reads_on hx1 HBW.out)
  have HC0 := Lib.hid (And.intro hb0 (And.intro hn0 (And.intro hp0 (And.intro hw00 hw01))))
  have HC1 := Lib.hid (And.intro hb1 (And.intro hn1 (And.intro hp1 (And.intro hw10 hw11))))
  have HW := Lib.hid hwb
  clear hwb hx0 hb0 hn0 hp0 hw00 hw01 hx1 hb1 hn1 hp1 hw10 hw11
  go_enter Try.func7, Try.ntmps7
  go_upto_region 1 with (first | (rw [HW.out]) | fail)
  clear b0 b1
  have hI0 : Inv7 wb (.agg #[.int .i64 kk0, .int .u64 ww0, .string pf0, .slice A0 n0 c0, .int .i64 fr0]) (.agg #[.int .i64 kk1, .int .u64 ww1, .string pf1, .slice A1 n1 c1, .int .i64 fr1]) w.heap.size 8 #[false, false, false, false, false, false, false, false] (act7 (.agg #[.int .i64 kk0, .int .u64 ww0, .string pf0, .slice A0 n0 c0, .int .i64 fr0]) (.agg #[.int .i64 kk1, .int .u64 ww1, .string pf1, .slice A1 n1 c1, .int .i64 fr1]) w.heap.size undef undef undef undef undef undef) wb.drew :=
    ⟨false, false, false, false, false, false, false, false, undef, undef, undef, undef, undef, undef, 0, 0, ⟨0, 0, ⟨#[]⟩, none, 0, none, 0, 0, [], []⟩, ⟨0, 0, ⟨#[]⟩, none, 0, none, 0, 0, [], []⟩, rfl, rfl, rfl,
      ⟨(Below.refl wb.heap.size wb).drew, (fun e => by cases e), (fun e => by cases e), (fun e => by cases e), (fun e => by cases e), (fun e => by cases e), (fun e => by cases e), (fun e => by cases e), fun _ => rfl, fun _ => rfl, fun _ => rfl, fun _ => rfl⟩⟩
  refine wp_region_any (by kernel_rfl) ?_
  refine wpAny_inv (I := Inv7 wb (.agg #[.int .i64 kk0, .int .u64 ww0, .string pf0, .slice A0 n0 c0, .int .i64 fr0]) (.agg #[.int .i64 kk1, .int .u64 ww1, .string pf1, .slice A1 n1 c1, .int .i64 fr1]) w.heap.size) ?_ ?_ ?_ 8 #[false, false, false, false, false, false, false, false] _ _ hI0
  rotate_left 1
  · rintro l a w' ⟨d0, d1, d2, d3, d4, d5, d6, d7, v9, v10, v11, v12, v5, v6, q5, q6, pa, pb, rfl, hk, rfl, H⟩
    cases d0 <;> cases d1 <;> cases d2 <;> cases d3 <;> cases d4 <;> cases d5 <;> cases d6 <;> cases d7 <;> first | (exfalso; revert hk; decide) | skip
    kernel_rfl
  · rintro k l a w' ⟨d0, d1, d2, d3, d4, d5, d6, d7, v9, v10, v11, v12, v5, v6, q5, q6, pa, pb, rfl, hk, rfl, H⟩ i hi
    have hi2 := List.all_eq_true.1 (rdy7 d0 d1 d2 d3 d4 d5 d6 d7) i hi
    clear hi
    rcases chk7_or hi2 with ⟨rfl, rfl⟩ | ⟨rfl, rfl, rfl⟩ | ⟨rfl, rfl⟩ | ⟨rfl, rfl, rfl, rfl⟩ | ⟨rfl, rfl⟩ | ⟨rfl, rfl⟩ | ⟨rfl, rfl, rfl, rfl⟩ | ⟨rfl, rfl, rfl, rfl⟩
    all_goals (clear hi2; simp only [cntF, Bool.not_false, Bool.not_true, Bool.toNat_true, Bool.toNat_false] at hk; unfold act7)
    · refine wpOp_step (o := _) (by rfl) (fun K hK => ?_)
      have b0 := (heap_below H.bel (lt_of_heap HB0.out)).trans HB0.out
      have p0 := cell_of b0 0
      have p1 := cell_of b0 1
      have p2 := cell_of b0 2
      have p3 := cell_of b0 3
      have p4 := cell_of b0 4
      clear b0
      have HH := Lib.hid H
      clear H
      go_simp
      refine hK _ _ ⟨true, d1, d2, d3, d4, d5, d6, d7, _, _, _, _, _, _, q5, q6, pa, pb, rfl, by simp only [cntF, Bool.not_false, Bool.not_true, Bool.toNat_true, Bool.toNat_false]; omega, rfl, HH.out.setk0⟩
    · refine wpOp_step (o := _) (by rfl) (fun K hK => ?_)
      obtain rfl := H.l0 rfl
      have HH := Lib.hid H
      have HXR := Lib.hid (reads_on HX0.out H.bel)
      clear H
      go_simp
      go_at_call 9
      refine (made_any kk0 ww0 pf0 A0 n0 c0 xs0 fr0 w' HXR.out HC0.out.1 HC0.out.2.1 HC0.out.2.2.1 HC0.out.2.2.2.1 HC0.out.2.2.2.2).mono ?_
      rintro e w1 ⟨v, kda, wda, pfa, zsa, ksa, ma, rfl, hnl, hm, hpw, hby, hk1, hkd4, hwd0, hwd1, Da, da, Ea, ea, rfl, hmx, hmy, hb1⟩
      exact hK _ _ ⟨true, true, d2, d3, d4, d5, d6, d7, _, _, _, _, _, _, q5, q6, ⟨kda, wda, pfa, Da, da, Ea, ea, ma, zsa, ksa⟩, pb, rfl, by simp only [cntF, Bool.not_false, Bool.not_true, Bool.toNat_true, Bool.toNat_false]; omega, rfl,
        (HH.out.keep hb1).seta ⟨kda, wda, pfa, Da, da, Ea, ea, ma, zsa, ksa⟩ ⟨hnl, hm, hby, hk1, hkd4, hmx.lower HH.out.bel.size, hmy.lower HH.out.bel.size⟩⟩
    · refine wpOp_step (o := _) (by rfl) (fun K hK => ?_)
      have b0 := (heap_below H.bel (lt_of_heap HB1.out)).trans HB1.out
      have p0 := cell_of b0 0
      have p1 := cell_of b0 1
      have p2 := cell_of b0 2
      have p3 := cell_of b0 3
      have p4 := cell_of b0 4
      clear b0
      have HH := Lib.hid H
      clear H
      go_simp
      refine hK _ _ ⟨d0, d1, true, d3, d4, d5, d6, d7, _, _, _, _, _, _, q5, q6, pa, pb, rfl, by simp only [cntF, Bool.not_false, Bool.not_true, Bool.toNat_true, Bool.toNat_false]; omega, rfl, HH.out.setk1⟩
    · refine wpOp_step (o := _) (by rfl) (fun K hK => ?_)
      obtain rfl := H.l2 rfl
      have HH := Lib.hid H
      have HXR := Lib.hid (reads_on HX1.out H.bel)
      clear H
      go_simp
      go_at_call 9
      refine (made_any kk1 ww1 pf1 A1 n1 c1 xs1 fr1 w' HXR.out HC1.out.1 HC1.out.2.1 HC1.out.2.2.1 HC1.out.2.2.2.1 HC1.out.2.2.2.2).mono ?_
      rintro e w1 ⟨v, kda, wda, pfa, zsa, ksa, ma, rfl, hnl, hm, hpw, hby, hk1, hkd4, hwd0, hwd1, Da, da, Ea, ea, rfl, hmx, hmy, hb1⟩
      exact hK _ _ ⟨d0, true, true, true, d4, d5, d6, d7, _, _, _, _, _, _, q5, q6, pa, ⟨kda, wda, pfa, Da, da, Ea, ea, ma, zsa, ksa⟩, rfl, by simp only [cntF, Bool.not_false, Bool.not_true, Bool.toNat_true, Bool.toNat_false]; omega, rfl,
        (HH.out.keep hb1).setb ⟨kda, wda, pfa, Da, da, Ea, ea, ma, zsa, ksa⟩ ⟨hnl, hm, hby, hk1, hkd4, hmx.lower HH.out.bel.size, hmy.lower HH.out.bel.size⟩⟩
    · refine wpOp_step (o := _) (by rfl) (fun K hK => ?_)
      have HH := Lib.hid H
      clear H
      go_simp
      refine hK _ _ ⟨d0, d1, d2, d3, true, d5, d6, d7, _, _, _, _, _, _, w'.heap.size, q6, pa, pb, rfl, by simp only [cntF, Bool.not_false, Bool.not_true, Bool.toNat_true, Bool.toNat_false]; omega, rfl, HH.out.new5⟩
    · refine wpOp_step (o := _) (by rfl) (fun K hK => ?_)
      have HH := Lib.hid H
      clear H
      go_simp
      refine hK _ _ ⟨d0, d1, d2, d3, d4, true, d6, d7, _, _, _, _, _, _, q5, w'.heap.size, pa, pb, rfl, by simp only [cntF, Bool.not_false, Bool.not_true, Bool.toNat_true, Bool.toNat_false]; omega, rfl, HH.out.new6⟩
    · refine wpOp_step (o := _) (by rfl) (fun K hK => ?_)
      obtain ⟨rfl, hq, hbx⟩ := H.x_ rfl
      obtain rfl := (H.a_ rfl).1
      have p0 := cell_of hbx 0
      have p1 := cell_of hbx 1
      have p2 := cell_of hbx 2
      have p3 := cell_of hbx 3
      have p4 := cell_of hbx 4
      have f0 := frozen_of hbx 0
      have f1 := frozen_of hbx 1
      have f2 := frozen_of hbx 2
      have f3 := frozen_of hbx 3
      have f4 := frozen_of hbx 4
      simp only [boxC, zc, Bool.false_eq_true, if_false] at p0 p1 p2 p3 p4
      have HH := Lib.hid H
      clear H hbx
      unfold NP.val
      go_simp
      refine hK _ _ ⟨d0, true, d2, d3, true, d5, true, d7, _, _, _, _, _, _, q5, q6, pa, pb, rfl, by simp only [cntF, Bool.not_false, Bool.not_true, Bool.toNat_true, Bool.toNat_false]; omega, rfl, HH.out.str6⟩
    · refine wpOp_step (o := _) (by rfl) (fun K hK => ?_)
      obtain ⟨rfl, hq, hbx⟩ := H.y_ rfl
      obtain rfl := (H.b_ rfl).1
      have p0 := cell_of hbx 0
      have p1 := cell_of hbx 1
      have p2 := cell_of hbx 2
      have p3 := cell_of hbx 3
      have p4 := cell_of hbx 4
      have f0 := frozen_of hbx 0
      have f1 := frozen_of hbx 1
      have f2 := frozen_of hbx 2
      have f3 := frozen_of hbx 3
      have f4 := frozen_of hbx 4
      simp only [boxC, zc, Bool.false_eq_true, if_false] at p0 p1 p2 p3 p4
      have HH := Lib.hid H
      clear H hbx
      unfold NP.val
      go_simp
      refine hK _ _ ⟨d0, d1, d2, true, d4, true, d6, true, _, _, _, _, _, _, q5, q6, pa, pb, rfl, by simp only [cntF, Bool.not_false, Bool.not_true, Bool.toNat_true, Bool.toNat_false]; omega, rfl, HH.out.str7⟩
  · rintro k l a w1 ⟨d0, d1, d2, d3, d4, d5, d6, d7, v9, v10, v11, v12, v5, v6, q5, q6, pa, pb, rfl, hk, rfl, H⟩ hr
    have hend := rdy7_end d0 d1 d2 d3 d4 d5 d6 d7
    have hr' : Region.ready .any ops7 #[d0, d1, d2, d3, d4, d5, d6, d7] = [] := hr
    rw [hr'] at hend
    have hall : (d0 && d1 && d2 && d3 && d4 && d5 && d6 && d7) = true := by simpa using hend
    clear hr hr' hend hk
    simp only [Bool.and_eq_true] at hall
    obtain ⟨⟨⟨⟨⟨⟨⟨rfl, rfl⟩, rfl⟩, rfl⟩, rfl⟩, rfl⟩, rfl⟩, rfl⟩ := hall
    obtain rfl := H.l0 rfl
    obtain rfl := H.l2 rfl
    obtain ⟨rfl, hpa⟩ := H.a_ rfl
    obtain ⟨rfl, hpb⟩ := H.b_ rfl
    obtain ⟨rfl, hq5, hb5⟩ := H.x_ rfl
    obtain ⟨rfl, hq6, hb6⟩ := H.y_ rfl
    simp only [boxC, if_true, NP.cells] at hb5 hb6
    have HB1w := Lib.hid H.bel
    have HPA := Lib.hid hpa
    have HPB := Lib.hid hpb
    have LA : Hid (pa.xs.length = pa.n) := Lib.hid (klen hpa.x.reads)
    have LB : Hid (pb.xs.length = pb.n) := Lib.hid (klen hpb.x.reads)
    have MA : Hid (pa.ys.length = pa.n) := Lib.hid (klen hpa.y.reads)
    have MB : Hid (pb.ys.length = pb.n) := Lib.hid (klen hpb.y.reads)
    have HQ5 := Lib.hid hb5
    have HQ6 := Lib.hid hb6
    have HNA : Hid (NodeL pa.kd pa.wd pa.pf pa.xs pa.ys pa.xs.length) := Lib.hid (by rw [LA.out]; exact hpa.nl)
    have HNB : Hid (NodeL pb.kd pb.wd pb.pf pb.xs pb.ys pb.xs.length) := Lib.hid (by rw [LB.out]; exact hpb.nl)
    have HEL : Hid ((encW pa.kd pa.wd pa.pf pa.xs pa.ys pa.n).length = sizeN pa.kd) := Lib.hid (by rw [← LA.out]; exact encW_len _ _ _ _ _ HNA.out hpa.k1 hpa.k4)
    have HEM : Hid ((encW pb.kd pb.wd pb.pf pb.xs pb.ys pb.n).length = sizeN pb.kd) := Lib.hid (by rw [← LB.out]; exact encW_len _ _ _ _ _ HNB.out hpb.k1 hpb.k4)
    have p0 := cell_of hb5 0
    have p1 := cell_of hb5 1
    have p2 := cell_of hb5 2
    have p3 := cell_of hb5 3
    have p4 := cell_of hb5 4
    clear H hpa hpb hq5 hq6 hb5 hb6
    unfold act7 NP.val
    go_upto_region 3 with (first
      | (go_at_call 25
         have hd := decode_any g2 pa.kd pa.wd pa.pf pa.xs pa.ys w2 HNA.out HPA.out.k1 HPA.out.k4 HPA.out.byt (by rw [MA.out, LA.out]) (by rw [LA.out]; exact HPA.out.hn) (by rw [LA.out]; exact HW2.out)
         refine hd.mono ?_
         rintro e w3 ⟨Ax, cx, Ax', cx', rfl, hx, hy, hb3⟩
         unfold nodeV
         have HB23 := Lib.hid hb3
         have HXX := Lib.hid hx
         have HYX := Lib.hid hy
         clear hd hx hy hb3)
      | (go_at_call 23
         refine (enc_any pa.kd pa.wd pa.pf pa.A pa.c pa.A' pa.c' pa.n pa.xs pa.ys w1 HPA.out.nl HPA.out.k1 HPA.out.k4 HPA.out.byt HPA.out.x.reads HPA.out.y.reads).mono ?_
         rintro e w2 ⟨g2, rfl, hg2, hwb2, hb2⟩
         have HW2 := Lib.hid (WB.whole (n := sizeN pa.kd) hwb2 HEL.out)
         have HB12 := Lib.hid hb2
         clear hwb2 hb2 hg2)
      | fail)
    obtain ⟨w4, hw4⟩ : ∃ w4, w3.alloc (.cells #[.int .i64 pa.kd, .int .u64 pa.wd, .string pa.pf, .slice Ax pa.xs.length cx, .slice Ax' pa.xs.length cx'] 28) = w4 := ⟨_, rfl⟩
    have HB34 : Hid (Below w3.heap.size w3 w4) := Lib.hid (by rw [← hw4]; exact (Below.refl _ _).alloc (Nat.le_refl _) _)
    have HB14 : Hid (Below w1.heap.size w1 w4) := Lib.hid (after HB12.out (after HB23.out HB34.out))
    obtain ⟨q7, hq7⟩ : ∃ q7, q7 = w3.heap.size := ⟨_, rfl⟩
    have HS4 : Hid (S3 q5 q6 q7 pa pb (⟨pa.kd, pa.wd, pa.pf, Ax, cx, Ax', cx', pa.xs.length, pa.xs, pa.ys⟩ : NP) w4) := Lib.hid
      ⟨(heap_below HB14.out (lt_of_heap HQ5.out)).trans HQ5.out, (heap_below HB14.out (lt_of_heap HQ6.out)).trans HQ6.out, by rw [hq7, ← hw4]; exact heap_alloc_new _ _,
        reads_on HPA.out.x.reads HB14.out, reads_on HPA.out.y.reads HB14.out, reads_on HPB.out.x.reads HB14.out, reads_on HPB.out.y.reads HB14.out, reads_on HXX.out HB34.out, reads_on HYX.out HB34.out⟩
    rw [hw4, ← hq7]
    clear p0 p1 p2 p3 p4 hw4 hq7 HXX HYX HW2
    obtain ⟨X, hX⟩ : ∃ X, X = eqB (encW pa.kd pa.wd pa.pf pa.xs pa.ys pa.n) (encW pb.kd pb.wd pb.pf pb.xs pb.ys pb.n) := ⟨_, rfl⟩
    have HXE : Hid (X = (decide (pa.kd = pb.kd) && decide (pa.wd = pb.wd) && decide (pa.pf = pb.pf) && decide (pa.xs = pb.xs) && decide (pa.ys = pb.ys))) := Lib.hid (by
      rw [hX, ← LA.out, ← LB.out]
      exact words_tell HNA.out HNB.out HPA.out.k1 HPA.out.k4 HPB.out.k1 HPB.out.k4 HPA.out.byt HPB.out.byt (by rw [MA.out, LA.out]) (by rw [MB.out, LB.out]) (by rw [LA.out]; exact HPA.out.hn) (by rw [LB.out]; exact HPB.out.hn))
    have HXD := Lib.hid hX
    clear hX
    have HSD : Hid (S3 q5 q6 q7 pa pb (⟨pa.kd, pa.wd, pa.pf, Ax, cx, Ax', cx', pa.xs.length, pa.xs, pa.ys⟩ : NP) w4.drew) := Lib.hid (HS4.out.keep (Below.refl w4.heap.size w4).drew)
    have HSS := HS4
    clear HS4
    go_region_held3 (fun w' => w'.cell? ⟨q5, 0, none⟩ = some (.int .i64 pa.kd) ∧ w'.cell? ⟨q5, 1, none⟩ = some (.int .u64 pa.wd) ∧ w'.cell? ⟨q5, 2, none⟩ = some (.string pa.pf) ∧ w'.cell? ⟨q5, 3, none⟩ = some (.slice pa.A pa.n pa.c) ∧ w'.cell? ⟨q5, 4, none⟩ = some (.slice pa.A' pa.n pa.c') ∧ w'.cell? ⟨q6, 0, none⟩ = some (.int .i64 pb.kd) ∧ w'.cell? ⟨q6, 1, none⟩ = some (.int .u64 pb.wd) ∧ w'.cell? ⟨q6, 2, none⟩ = some (.string pb.pf) ∧ w'.cell? ⟨q6, 3, none⟩ = some (.slice pb.A pb.n pb.c) ∧ w'.cell? ⟨q6, 4, none⟩ = some (.slice pb.A' pb.n pb.c') ∧ w'.cell? ⟨q7, 0, none⟩ = some (.int .i64 pa.kd) ∧ w'.cell? ⟨q7, 1, none⟩ = some (.int .u64 pa.wd) ∧ w'.cell? ⟨q7, 2, none⟩ = some (.string pa.pf) ∧ w'.cell? ⟨q7, 3, none⟩ = some (.slice Ax pa.xs.length cx) ∧ w'.cell? ⟨q7, 4, none⟩ = some (.slice Ax' pa.xs.length cx'))
      (first | with_reducible exact HSD.out.cells | with_reducible exact HS5.out.cells | with_reducible exact HS6.out.cells | with_reducible exact HS7.out.cells | with_reducible exact HS8.out.cells | with_reducible exact HS9.out.cells | with_reducible exact HSA.out.cells | with_reducible exact HSB.out.cells | (go_keep; done))
      (first
        | (have _hh := HSA
           go_at_call 13; refine (runs_any _).mono ?_
           rintro e wB ⟨rfl, hb⟩
           have HSB := Lib.hid (HSA.out.keep hb)
           have HBB := Lib.hid (after HBA.out hb)
           clear hb)
        | (have _hh := HS9
           go_at_call 14; refine (same_gen pa.kd pa.wd pa.pf pa.A pa.c pa.A' pa.c' pa.n pa.xs pa.ys pb.kd pb.wd pb.pf pb.A pb.c pb.A' pb.c' pb.n pb.xs pb.ys w9 HPA.out.hn HPB.out.hn HS9.out.xa HS9.out.ya HS9.out.xb HS9.out.yb).mono ?_
           rintro e wA ⟨rfl, hb⟩
           rw [← HXE.out]
           have HSA := Lib.hid (HS9.out.keep hb)
           have HBA := Lib.hid (after HB9.out hb)
           clear hb)
        | (have _hh := HS8
           go_at_call 24; refine (same_any w8.heap.size _ _ (sizeN pa.kd) (sizeN pb.kd) _ _ (encW pa.kd pa.wd pa.pf pa.xs pa.ys pa.n) (encW pb.kd pb.wd pb.pf pb.xs pb.ys pb.n) w8 HWA.out HWB.out (by have := sizeN_hi pa.kd; omega) (by have := sizeN_hi pb.kd; omega)).mono ?_
           rintro e w9 ⟨rfl, hb⟩
           rw [← HXD.out]
           have HS9 := Lib.hid (HS8.out.keep hb)
           have HB9 := Lib.hid (after HB8.out hb)
           clear hb)
        | (have _hh := HS7
           go_at_call 23; refine (enc_any pb.kd pb.wd pb.pf pb.A pb.c pb.A' pb.c' pb.n pb.xs pb.ys w7 HPB.out.nl HPB.out.k1 HPB.out.k4 HPB.out.byt HS7.out.xb HS7.out.yb).mono ?_
           rintro e w8 ⟨g8, rfl, hg, hwb, hb⟩
           have HWB := Lib.hid (WB.whole (n := sizeN pb.kd) hwb HEM.out)
           have HWA := Lib.hid (reads_on HW7.out hb)
           have HS8 := Lib.hid (HS7.out.keep hb)
           have HB8 := Lib.hid (after HB7.out hb)
           clear hb hg hwb)
        | (have _hh := HS6
           go_at_call 23; refine (enc_any pa.kd pa.wd pa.pf pa.A pa.c pa.A' pa.c' pa.n pa.xs pa.ys w6 HPA.out.nl HPA.out.k1 HPA.out.k4 HPA.out.byt HS6.out.xa HS6.out.ya).mono ?_
           rintro e w7 ⟨g7, rfl, hg, hwb, hb⟩
           have HW7 := Lib.hid (WB.whole (n := sizeN pa.kd) hwb HEL.out)
           have HS7 := Lib.hid (HS6.out.keep hb)
           have HB7 := Lib.hid (after HB6.out hb)
           clear hb hg hwb)
        | (have _hh := HS5
           go_at_call 14; refine (same_gen pa.kd pa.wd pa.pf Ax cx Ax' cx' pa.xs.length pa.xs pa.ys pa.kd pa.wd pa.pf pa.A pa.c pa.A' pa.c' pa.n pa.xs pa.ys w5 (by rw [LA.out]; exact HPA.out.hn) HPA.out.hn HS5.out.xx HS5.out.yx HS5.out.xa HS5.out.ya).mono ?_
           rintro e w6 ⟨rfl, hb⟩
           rw [show (decide (pa.kd = pa.kd) && decide (pa.wd = pa.wd) && decide (pa.pf = pa.pf) && decide (pa.xs = pa.xs) && decide (pa.ys = pa.ys)) = true from by simp]
           have HS6 := Lib.hid (HS5.out.keep hb)
           have HB6 := Lib.hid (after HB5.out hb)
           clear hb)
        | (go_at_call 21; refine (right_any pa.kd pa.wd pa.pf pa.A pa.c pa.A' pa.c' pa.n pa.xs pa.ys _ HPA.out.nl HPA.out.hn HSD.out.xa HSD.out.ya).mono ?_
           rintro e w5 ⟨rfl, hb⟩
           have HS5 := Lib.hid (HSD.out.keep hb)
           have HB5 : Hid (Below w4.heap.size w4 w5) := Lib.hid (after (Below.refl w4.heap.size w4).drew hb)
           clear hb))
    go_wp2
    go_ret
    exact ⟨rfl, after HBW.out (after HB1w.out (after HB14.out HBB.out))⟩
end Go.Proofs.Ytononinmjijhoaa
