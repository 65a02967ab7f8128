/-
  The terms of a text of 512 bytes at most, in new memory; of a longer one none.
-/
import Derived.Test.YtoffibcplbfokaaTkS
namespace Go.Proofs.Ytoffibcplbfokaa
open Go.RowKit Go.WideShapes Go.ChangeShapes
set_option linter.all false
theorem Mid.apart {w : World} {N N' n n' : Nat} {t t' : TypeId} {v v' : Value} {xs ys : List Value} (h : Mid w N t 1 v n xs) (h' : Mid w N' t' 1 v' n' ys) (hne : t ≠ t') : ∀ g, v.ownBlock = some g → v'.ownBlock ≠ some g := by
  intro g hg hg'
  rcases h.2 with ⟨rfl, _⟩ | ⟨g1, o1, c1, cur1, rfl, _, hh1, _⟩
  · cases hg
  · rcases h'.2 with ⟨rfl, _⟩ | ⟨g2, o2, c2, cur2, rfl, _, hh2, _⟩
    · cases hg'
    · have e1 : g1 = g := by simpa [Value.ownBlock] using hg
      have e2 : g2 = g := by simpa [Value.ownBlock] using hg'
      subst e1; subst e2
      rw [hh1] at hh2
      injection hh2 with hh2
      injection hh2 with _ ht
      exact hne ht
theorem Mid.on_ran {w w' : World} {N N' n n' : Nat} {t t' : TypeId} {v u u' : Value} {xs ys : List Value} (h : Mid w N t 1 v n xs) (h' : Mid w N' t' 1 u n' ys) (hne : t ≠ t') (hr : Ran u u' w w') : Mid w' N t 1 v n xs :=
  h.same fun g hg => hr.grown.block g (h.lt g hg).2 (fun e => h.apart h' hne g hg e.symm)
def stepW (lW : List (List UInt8)) (bs r : List UInt8) : List (List UInt8) := lW ++ wordsGo bs r
theorem stepW_more {s : List UInt8} {k : Nat} (h : k < s.length) {lW : List (List UInt8)} {bs : List UInt8} (hc : letter (s.getD k 0) ≠ 0) : stepW lW bs (s.drop k) = stepW lW (bs ++ [letter (s.getD k 0)]) (s.drop (k + 1)) := by
  have e : s.drop k = s.getD k 0 :: s.drop (k + 1) := by
    rw [List.drop_eq_getElem_cons h, List.getD_eq_getElem?_getD, List.getElem?_eq_getElem h]; rfl
  rw [e]; unfold stepW; rw [wordsGo, if_neg hc]
theorem stepW_cut {s : List UInt8} {k : Nat} (h : k < s.length) {lW : List (List UInt8)} {bs : List UInt8} (hc : letter (s.getD k 0) = 0) : stepW lW bs (s.drop k) = stepW (lW ++ cutW bs) [] (s.drop (k + 1)) := by
  have e : s.drop k = s.getD k 0 :: s.drop (k + 1) := by
    rw [List.drop_eq_getElem_cons h, List.getD_eq_getElem?_getD, List.getElem?_eq_getElem h]; rfl
  rw [e]; unfold stepW; rw [wordsGo, if_pos hc, List.append_assoc]
theorem stepW_end {s : List UInt8} {k : Nat} (h : k = s.length) {lW : List (List UInt8)} {bs : List UInt8} : stepW lW bs (s.drop k) = lW ++ cutW bs := by
  subst h; unfold stepW; rw [List.drop_length, wordsGo]
/-- What the loop of Terms holds behind k bytes. -/
def TI (s : List UInt8) (N : Nat) (w wr : World) (k : Nat) (vW vw : Value) (lW : List (List UInt8)) (bs : List UInt8) : Prop :=
  Mid wr N 9 1 vW lW.length (strs lW) ∧ Mid wr N 5 1 vw bs.length (u8s bs) ∧ Below N w wr ∧ lW.length ≤ k ∧ bs.length ≤ k ∧ stepW lW bs (s.drop k) = words s
set_option maxRecDepth 100000 in
set_option maxHeartbeats 800000 in
theorem terms_any (s : ByteArray) (w : World) (hs : s.size ≤ 512) :
    Calls Try.prog 8 #[.string s] w fun e w' => ∃ v, e = .returned (.tuple #[v, .int .i64 0]) ∧ Mid w' w.heap.size 9 1 v (toks s.data.toList).length (strs (toks s.data.toList)) ∧ Below w.heap.size w w' := by
  obtain ⟨i0, hi0, hz0, hz1, hz2⟩ := info_parts infoB
  have hno : ¬ (512 : Int) < s.size := by omega
  go_enter Try.func8, Try.ntmps8
  go_wp2
  go_loopw [4, 5, 13] (fun vW vw i wr => ∃ (k : Nat) (lW : List (List UInt8)) (bs : List UInt8) (W V : Value), vW = W ∧ vw = V ∧ k ≤ s.size ∧ i = .int .i64 k ∧ Hid (TI s.data.toList w.heap.size w wr k W V lW bs)) (fun _ _ i _ => s.size - (intOf i).toNat)
  case atStart => exact ⟨0, [], [], _, _, rfl, rfl, Nat.zero_le _, rfl, Lib.hid ⟨Mid.nil _ _ _ _, Mid.nil _ _ _ _, Below.refl _ _, by simp, by simp, rfl⟩⟩
  case round =>
    obtain ⟨k, lW, bs, vW, vw, rfl, rfl, hk, rfl, HI⟩ := hrel
    by_cases hlt : k < s.size
    · have HL : Hid (s.size = s.data.toList.length) := Lib.hid rfl
      have HG : Hid (s[k] = s.data.toList.getD k 0) := Lib.hid (by rw [List.getD_eq_getElem?_getD, List.getElem?_eq_getElem (show k < s.data.toList.length from hlt)]; rfl)
      obtain ⟨AW, cW, rfl⟩ := HI.out.1.form
      obtain ⟨Aw, cw, rfl⟩ := HI.out.2.1.form
      generalize hlb : bs.length = nb at *
      generalize hlw : lW.length = nw at *
      have HB := Lib.hid hlb
      have HW := Lib.hid hlw
      clear hlb hlw
      have hkw : nb ≤ 512 ∧ nw ≤ 512 := by have := HI.out.2.2.2; rw [HB.out, HW.out] at this; omega
      have hsz : w.heap.size ≤ wr.heap.size := HI.out.2.2.1.size
      by_cases hc : letter s[k] = 0
      · have hd : (((letter s[k]).toNat : Int) != 0) = false := by rw [hc]; rfl
        have HC := Lib.hid hc
        clear hc
        go_wp2_with (first
          | (go_at_call 11; refine (letter_any _ _).mono ?_; rintro e w' ⟨rfl, rfl⟩)
          | (go_at_call 16; refine (appendWord_any w.heap.size _ nw lW w.heap.size Aw nb cw bs _ (by have := HI.out.1; rw [HW.out] at this; exact this) (by have := HI.out.2.1; rw [HB.out] at this; exact this) (by omega) hsz (by omega)).mono ?_
             rintro e w1 ⟨v1, rfl, hm1, hr1⟩
             have HM := Lib.hid hm1
             have HR := Lib.hid hr1
             clear hm1 hr1)
          | fail)
        have HF : Hid (TI s.data.toList w.heap.size w w1 (k + 1) v1 (.slice none 0 0) (lW ++ cutW bs) []) := Lib.hid (by
          have hI := HI.out
          have hcl : (cutW bs).length ≤ 1 := by unfold cutW; split <;> simp
          refine ⟨?_, Mid.nil _ _ _ _, hI.2.2.1.grown HR.out.grown hsz (fun g hg => (hI.1.lt g hg).1), ?_, by simp, ?_⟩
          · rw [List.length_append, HW.out]; exact HM.out
          · rw [List.length_append, HW.out]; have := hI.2.2.2.1; rw [HW.out] at this; omega
          · rw [← hI.2.2.2.2.2]; exact (stepW_cut (by rw [← HL.out]; exact hlt) (by rw [← HG.out]; exact HC.out)).symm)
        clear HM HR
        go_roundw
        case rel => exact ⟨k + 1, _, _, _, _, rfl, rfl, by omega, by go_num, HF⟩
        case measure => simp only [intOf]; omega
      · have hd : (((letter s[k]).toNat : Int) != 0) = true := by
          have : (letter s[k]).toNat ≠ 0 := fun e => hc (UInt8.toNat_inj.1 e)
          simpa using this
        have HC := Lib.hid hc
        clear hc
        go_wp2_with (first
          | (go_at_call 11; refine (letter_any _ _).mono ?_; rintro e w' ⟨rfl, rfl⟩)
          | (refine wpList_append_mid rfl (.tmp 22) (.tmp 24) 33 rfl w.heap.size 5 i0 _ 1 1 Try.underlying33 hi0 hz0 hz1 hz2 rfl (by omega) (.slice Aw nb cw) nb (u8s bs) rfl (by have := HI.out.2.1; rw [HB.out] at this; exact this.same fun g hg => Below.heap_alloc _ _ g (this.lt g hg).2) ⟨_, 0, none⟩ 1 1 [.int .u8 _] rfl rfl (World.news_of_block (cs := #[.int .u8 _]) (t := 5) (fr := (0, 0)) (heap_alloc_new _ _)) (by simp [Value.oneCell']) (by unfold maxLen; omega) (by omega) (by simp; omega) ?_
             intro v' w3 hmm hran
             have HMM := Lib.hid hmm
             have HRN := Lib.hid hran
             clear hmm hran)
          | fail)
        have HF : Hid (TI s.data.toList w.heap.size w w3 (k + 1) (.slice AW nw cW) v' lW (bs ++ [letter s[k]])) := Lib.hid (by
          have hI := HI.out
          unfold TI at hI
          rw [HB.out, HW.out] at hI
          have hal := HRN.out.alloc
          refine ⟨?_, ?_, hI.2.2.1.grown hal.grown hsz (fun g hg => (hI.2.1.lt g hg).1), ?_, ?_, ?_⟩
          · rw [HW.out]; exact hI.1.on_ran hI.2.1 (by decide) hal
          · rw [List.length_append, HB.out, u8s_append]; exact HMM.out
          · rw [HW.out]; omega
          · rw [List.length_append, HB.out]; simp; omega
          · rw [← hI.2.2.2.2.2, HG.out]; exact (stepW_more (by rw [← HL.out]; exact hlt) (by rw [← HG.out]; exact HC.out)).symm)
        clear HMM HRN
        go_roundw
        case rel => exact ⟨k + 1, _, _, _, _, rfl, rfl, by omega, by go_num, HF⟩
        case measure => simp only [intOf]; omega
    · obtain ⟨AW, cW, rfl⟩ := HI.out.1.form
      obtain ⟨Aw, cw, rfl⟩ := HI.out.2.1.form
      have hsz : w.heap.size ≤ wr.heap.size := HI.out.2.2.1.size
      have hkw : bs.length ≤ 512 ∧ lW.length ≤ 512 := by have := HI.out.2.2.2; omega
      have HE : Hid (words s.data.toList = lW ++ cutW bs) := Lib.hid (by
        have hI := HI.out
        rw [← hI.2.2.2.2.2]; exact stepW_end (by have : s.size = s.data.toList.length := rfl; omega))
      have HCL : Hid ((cutW bs).length ≤ 1) := Lib.hid (by unfold cutW; split <;> simp)
      go_wp2_with (first
        | (go_at_call 16; refine (appendWord_any w.heap.size _ lW.length lW w.heap.size Aw bs.length cw bs _ HI.out.1 HI.out.2.1 (by omega) hsz (by omega)).mono ?_
           rintro e w1 ⟨v1, rfl, hm1, hr1⟩
           obtain ⟨A1, c1, rfl⟩ := hm1.form
           have HM := Lib.hid hm1
           have HB1 := Lib.hid (HI.out.2.2.1.grown hr1.grown hsz (fun g hg => (HI.out.1.lt g hg).1))
           clear hm1 hr1)
        | (go_at_call 17; refine (sort_mid HM.out (by have := HB1.out.size; omega) (by have := HCL.out; omega)).mono ?_
           rintro e w2 ⟨rfl, hm2, hb2⟩
           have HM2 := Lib.hid hm2
           have HB2 := Lib.hid (HB1.out.trans hb2)
           clear hm2 hb2)
        | (go_at_call 18; refine (compact_mid HM2.out (by have := HB2.out.size; omega) (by have := HCL.out; omega)).mono ?_
           rintro e w3 ⟨kk, rfl, hkk, _, hm3, hb3⟩
           have HM3 := Lib.hid hm3
           have HK3 := Lib.hid hkk
           have HB3 := Lib.hid (HB2.out.trans hb3)
           clear hm3 hb3 hkk)
        | fail)
      go_ret2
      refine ⟨_, rfl, ?_, HB3.out⟩
      have e : toks s.data.toList = Lib.compact (srt (lW ++ cutW bs)) := by unfold toks; rw [HE.out]
      rw [e, ← HK3.out]
      exact HM3.out
theorem terms_long (s : ByteArray) (w : World) (hs : ¬ s.size ≤ 512) :
    Calls Try.prog 8 #[.string s] w fun e w' => e = .returned (.tuple #[.slice none 0 0, .int .i64 11]) ∧ w' = w := by
  have hno : (512 : Int) < s.size := by omega
  go_enter Try.func8, Try.ntmps8
  go_wp2
  go_ret2
  exact ⟨rfl, rfl⟩
end Go.Proofs.Ytoffibcplbfokaa
