/-
  MergeTells: any lists, and they stay; condition: what can be read.
-/
import Derived.Test.YthgjpdbajmfclaaMgj
import Derived.Deep.RegionHeld3
namespace Go.Proofs.Ythgjpdbajmfclaa
open Go.RowKit Go.WideShapes Go.ChangeShapes
set_option linter.all false
theorem wb_roomy {w' : World} {g : Nat} {l : List Int} (h : WB .i64 3 w' g (l ++ List.replicate 80 (-5))) : WB .i64 3 w' g (rm l) := h
/-- The row of the lists as they are given, behind j of them. -/
structure T3 (own : List Ar) (gs : List Nat) (N : Nat) (w1 wr : World) (j : Nat) (V : Value) : Prop where
  row : Mid wr N 22 1 V j (((List.zipWith givenOf own gs).take j).map Ar.v)
  below : Below N w1 wr
  le : N ≤ wr.heap.size
/-- A row of numbers made behind all else. -/
structure T4 (L : List Int) (N : Nat) (w1 wr : World) (V : Value) : Prop where
  row : Mid wr N 3 1 V L.length (ks .i64 L)
  below : Below N w1 wr
  le : N ≤ wr.heap.size
theorem T4.si {L : List Int} {N n c : Nat} {A : Option Addr} {w1 wr : World} (h : T4 L N w1 wr (.slice A n c)) : n = L.length → SI wr wr.heap.size A n c L := by
  rintro rfl; exact h.row.si
theorem T4.on {L : List Int} {N : Nat} {w1 wr w' : World} {V : Value} (h : T4 L N w1 wr V) (hb : Below wr.heap.size wr w') : T4 L N w1 w' V :=
  ⟨h.row.same fun g hg => hb.block g (h.row.lt g hg).2, h.below.trans (hb.mono h.le), Nat.le_trans h.le hb.size⟩
theorem T4.snoc {L : List Int} {N n : Nat} {w1 wr w' : World} {V V' : Value} {x : Int} (h : T4 L N w1 wr V) (hn : n = L.length) (hr : Ran V V' wr w') (hm : Mid w' N 3 1 V' (n + 1) (ks .i64 L ++ [.int .i64 x])) : T4 (L ++ [x]) N w1 w' V' := by
  subst hn
  exact ⟨by rw [List.length_append, ks_snoc]; exact hm, h.below.trans ((Below.refl _ _).grown hr.grown h.le (fun g hg => (h.row.lt g hg).1)), Nat.le_trans h.le hr.grown.size⟩
theorem T4.nil (w : World) : T4 [] w.heap.size w w (.slice none 0 0) := ⟨Mid.nil _ _ _ _, Below.refl _ _, Nat.le_refl _⟩
theorem add1_eq (ad : Addr) : ad.add 1 = ⟨ad.block, ad.off + 1, none⟩ := by unfold Addr.add; rw [if_neg (by omega)]
theorem inter_gen (A : Option Addr) (n c : Nat) (ls : List Ar) (w : World) (h : LL w w.heap.size A n c ls) (hn : n ≤ 100) (hls : ∀ e ∈ ls, e.n ≤ 2000) :
    Calls Try.prog 10 #[.slice A n c] w (LP (interL (ls.map Ar.l)) w) := by
  cases ls with
  | nil =>
    have : n = 0 := by have := h.len; simpa using this.symm
    subst this
    exact inter_zero A c w
  | cons a r =>
    obtain ⟨q, rfl⟩ : ∃ q, n = q + 1 := ⟨n - 1, by have := h.len; simp at this; omega⟩
    exact inter_any A q c a r w h (by omega) (hls a (by simp)) (fun e he => hls e (by simp [he]))
theorem inter_eq' (own : List Ar) : interL (own.map Ar.l) = (uni (own.map Ar.l)).filter (inB own) := by
  cases own with
  | nil => rfl
  | cons a r => exact inter_eq a r
theorem given_n {own : List Ar} {gs : List Nat} {k : Nat} {wr : World} {A1 A2 : Option Addr} {c1 c2 : Nat} (h : T2 own gs wr k A1 A2 c1 c2) : ∀ e ∈ List.zipWith givenOf own gs, e.n ≤ 2000 := fun e he => by
  obtain ⟨i, h1, h2, rfl⟩ := zip_mem givenOf he
  have := (h.n40 _ (getA_mem h1)).2
  show (own.getD i dA).n ≤ 2000
  omega
set_option maxRecDepth 100000 in
set_option maxHeartbeats 25600000 in
theorem tells_law (A : Option Addr) (n c : Nat) (ls : List Ar) (nn : Int) (w : World) (h : LL w w.heap.size A n c ls) :
    Calls Try.prog 6 #[.slice A n c, .int .i64 nn] w fun e w' => e = .returned (.bool true) ∧ Below w.heap.size w w' := by
  obtain ⟨i0, hi0, hz0, hz1, hz2⟩ := info_parts info22
  obtain ⟨j0, hj0, hy0, hy1, hy2⟩ := info_parts infoI
  by_cases hn : n ≤ 8
  · have hn' : ¬ (n : Int) > 8 := by omega
    have HLL := Lib.hid h
    have HLN := Lib.hid h.len
    clear h
    go_enter Try.func6, Try.ntmps6
    go_wp2
    go_loopw [5, 6, 7, 31] (fun V1 V2 V3 i wr => ∃ (k : Nat) (own : List Ar) (gs : List Nat) (al : List Int) (X1 X2 X3 : Option Addr) (c1 c2 c3 m3 : Nat), V1 = .slice X1 k c1 ∧ V2 = .slice X2 k c2 ∧ V3 = .slice X3 m3 c3 ∧ i = .int .i64 k ∧ k ≤ n ∧ Hid (T1 ls own gs al w wr k (.slice X1 k c1) (.slice X2 k c2) (.slice X3 m3 c3))) (fun _ _ _ i _ => n - (intOf i).toNat)
    case atStart => exact ⟨0, [], [], [], none, none, none, 0, 0, 0, 0, rfl, rfl, rfl, rfl, Nat.zero_le _, Lib.hid (T1.nil ls w)⟩
    case round =>
      obtain ⟨k, own, gs, al, X1, X2, X3, c1, c2, c3, m3, rfl, rfl, rfl, rfl, hk, HT⟩ := hrel
      by_cases hlt : k < n
      · have HKL : Hid (k < ls.length) := Lib.hid (by rw [HLN.out]; exact hlt)
        have HSI0 : Hid (SI w w.heap.size (ls.getD k dA).A (ls.getD k dA).n (ls.getD k dA).c (ls.getD k dA).l) := Lib.hid (by obtain ⟨_, _, _, h⟩ := HLL.out.at_ hlt; exact h)
        obtain ⟨ad, had, hcell, _⟩ := (HLL.out.below HT.out.below).at_ hlt
        subst had
        have hm3 : m3 = al.length := by
          have h1 := HT.out.ts.r3
          obtain ⟨_, _, e⟩ := h1.form
          injection e with _ e _
        have hal := HT.out.len3
        have HM3 := Lib.hid hm3.symm
        rw [← hm3] at hal
        have hm39 : m3 ≤ 400 := by omega
        have HR1 : Hid (Mid wr w.heap.size 22 1 (.slice X1 k c1) k (own.map Ar.v)) := Lib.hid (by have := HT.out.ts.r1; rw [List.length_map, HT.out.len] at this; exact this)
        have HR2 : Hid (Mid wr w.heap.size 22 1 (.slice X2 k c2) k ((List.zipWith fullOf own gs).map Ar.v)) := Lib.hid (by have := HT.out.ts.r2; rw [List.length_map, List.length_zipWith, HT.out.len, HT.out.lg, Nat.min_self] at this; exact this)
        have HR3 : Hid (Mid wr w.heap.size 3 1 (.slice X3 m3 c3) m3 (ks .i64 al)) := Lib.hid (by rw [hm3]; have := HT.out.ts.r3; rw [hm3] at this; exact this)
        have hNw : w.heap.size ≤ wr.heap.size := HT.out.below.size
        obtain ⟨e0, he0⟩ : ∃ e0, e0 = ls.getD k dA := ⟨_, rfl⟩
        rw [← he0] at HSI0 hcell
        obtain ⟨eA, en, ec, el0⟩ := e0
        simp only [Ar.v] at hcell
        have HE0 : Hid ((ls.getD k dA).l = el0) := Lib.hid (by rw [← he0])
        clear he0 hm3 hal
        by_cases h40 : en ≤ 40
        · have hgt : ¬ (en : Int) > 40 := by omega
          have HSX : Hid (SI w w.heap.size eA en ec el0) := Lib.hid HSI0.out
          have HEL : Hid (el0.length = en) := Lib.hid HSX.out.len
          have hasc : (asc el0).length ≤ 40 := by have := asc_len' el0; have := HEL.out; omega
          have HCUT : Hid (el0 = (ls.getD k dA).l.take 40) := Lib.hid (by rw [HE0.out, List.take_of_length_le (by rw [HEL.out]; exact h40)])
          generalize el0 = el at *
          clear HSI0 HE0
          go_wp2_with (first
            | (refine wpList_append_mid rfl (.tmp 43) (.tmp 45) 30 rfl w.heap.size 22 i0 _ 1 24 Try.underlying30 hi0 hz0 hz1 hz2 rfl (by omega) (.slice X1 k c1) k _ rfl (HR1.out.alloc_ _) ⟨_, 0, none⟩ 1 1 [.slice eA en ec] rfl rfl (World.news_of_block (cs := #[.slice eA en ec]) (t := 22) (fr := (0, 0)) (heap_alloc_new _ _)) (by simp [Value.oneCell']) (by unfold maxLen; omega) (by omega) (by simp; omega) ?_
               intro v' w3 hmm hran
               obtain ⟨Y1, d1, rfl⟩ := hmm.form
               have HM1 := Lib.hid hmm
               have HN1 := Lib.hid hran.alloc
               have hb3 : Below w.heap.size wr w3 := (Below.refl _ _).grown hran.alloc.grown hNw (fun g hg => (HR1.out.lt g hg).1)
               have HSX3 := Lib.hid ((HSX.out.below (HT.out.below.trans hb3)).more (Nat.le_trans hNw hran.alloc.grown.size))
               have hR2 : Mid w3 w.heap.size 22 1 (.slice X2 k c2) k ((List.zipWith fullOf own gs).map Ar.v) := HR2.out.same fun g hg => HN1.out.grown.block g (HR2.out.lt g hg).2 (fun e => HT.out.ts.s12 g e.symm hg)
               have hR3 : Mid w3 w.heap.size 3 1 (.slice X3 m3 c3) m3 (ks .i64 al) := HR3.out.on_ran HR1.out (by decide) HN1.out
               replace HR2 := Lib.hid hR2
               replace HR3 := Lib.hid hR3
               have hN3 : w.heap.size ≤ w3.heap.size := Nat.le_trans hNw hran.alloc.grown.size
               clear hmm hran hb3 hR2 hR3)
            | (go_at_call 15; refine (roomy_i _ _ _ el (-5) _ HSX3.out.2.2.2 (by omega)).mono ?_
               rintro e w4 ⟨rfl, hq, hb4⟩
               have hsl : sl w3.heap.size (el.length + 80) = .slice (some ⟨w3.heap.size, 0, none⟩) (en + 80) (en + 80) := (by rw [HEL.out]; rfl)
               rw [hsl]
               clear hsl
               have HQ4 := Lib.hid (wb_roomy hq)
               have HB4 := Lib.hid hb4
               have hR2 : Mid w4 w.heap.size 22 1 (.slice X2 k c2) k ((List.zipWith fullOf own gs).map Ar.v) := HR2.out.same fun g hg => hb4.block g (HR2.out.lt g hg).2
               have hR3 : Mid w4 w.heap.size 3 1 (.slice X3 m3 c3) m3 (ks .i64 al) := HR3.out.same fun g hg => hb4.block g (HR3.out.lt g hg).2
               replace HR2 := Lib.hid hR2
               replace HR3 := Lib.hid hR3
               have hN4 : w.heap.size ≤ w4.heap.size := Nat.le_trans hN3 hb4.size
               have HSX4 := Lib.hid (HSX3.out.on hb4)
               clear hq hb4 hR2 hR3 HSX3)
            | (refine wpList_append_mid rfl (.tmp 47) (.tmp 50) 30 rfl w.heap.size 22 i0 _ 1 24 Try.underlying30 hi0 hz0 hz1 hz2 rfl (by omega) (.slice X2 k c2) k _ rfl (HR2.out.alloc_ _) ⟨_, 0, none⟩ 1 1 [.slice (some ⟨w3.heap.size, 0, none⟩) (en + 80) (en + 80)] rfl rfl (World.news_of_block (cs := #[.slice (some ⟨w3.heap.size, 0, none⟩) (en + 80) (en + 80)]) (t := 22) (fr := (0, 0)) (heap_alloc_new _ _)) (by simp [Value.oneCell']) (by unfold maxLen; omega) (by omega) (by simp; omega) ?_
               intro v' w5 hmm hran
               obtain ⟨Y2, d2, rfl⟩ := hmm.form
               have HM2 := Lib.hid hmm
               have HN2 := Lib.hid hran.alloc
               have hb5 : Below w.heap.size w4 w5 := (Below.refl _ _).grown hran.alloc.grown hN4 (fun g hg => (HR2.out.lt g hg).1)
               have hR3 : Mid w5 w.heap.size 3 1 (.slice X3 m3 c3) m3 (ks .i64 al) := HR3.out.on_ran HR2.out (by decide) HN2.out
               replace HR3 := Lib.hid hR3
               have hN5 : w.heap.size ≤ w5.heap.size := Nat.le_trans hN4 hran.alloc.grown.size
               have HSX5 : Hid (SI w5 w5.heap.size eA en ec el) := Lib.hid ((HSX.out.below (((HT.out.below.trans ((Below.refl _ _).grown HN1.out.grown hNw (fun g hg => (HR1.out.lt g hg).1))).trans (HB4.out.mono hN3)).trans hb5)).more hN5)
               clear hmm hran hb5 hR3 HSX4)
            | (go_at_call 9; refine (rising_mid _ _ _ _ _ HSX5.out (by omega)).mono ?_
               rintro e w6 ⟨v6, rfl, hm6, hb6⟩
               obtain ⟨A6, c6, rfl⟩ := hm6.form
               have HM6 := Lib.hid hm6
               have HB6 := Lib.hid hb6
               have hR3 : Mid w6 w.heap.size 3 1 (.slice X3 m3 c3) m3 (ks .i64 al) := HR3.out.same fun g hg => hb6.block g (HR3.out.lt g hg).2
               replace HR3 := Lib.hid hR3
               have hN6 : w.heap.size ≤ w6.heap.size := Nat.le_trans hN5 hb6.size
               clear hm6 hb6 hR3 HSX5)
            | (refine wpList_append_src (by first | rfl | kernel_rfl) (.tmp 52) (.tmp 54) 22 rfl w.heap.size 3 j0 _ 1 8 Try.underlying22 hj0 hy0 hy1 hy2 rfl (by omega) (.slice X3 m3 c3) m3 _ rfl HR3.out _ A6 _ c6 (ks .i64 (asc el)) rfl HM6.out.reads (ks_one .i64 _) (by unfold maxLen; omega) (by omega) hN6 ?_
               intro v7 w7 hm7 hr7
               obtain ⟨Y3, d3, rfl⟩ := hm7.form
               have HF : Hid (T1 ls (own ++ [⟨eA, en, ec, el⟩]) (gs ++ [w3.heap.size]) (al ++ asc el) w w7 (k + 1) (.slice Y1 (k + 1) d1) (.slice Y2 (k + 1) d2) (.slice Y3 (m3 + (asc el).length) d3)) := Lib.hid (by
                 refine HT.out.next (a := ⟨eA, en, ec, el⟩) HKL.out HCUT.out HSX.out HN1.out HM1.out HB4.out HQ4.out HN2.out HM2.out HB6.out hr7 ?_
                 rw [ks_append, HM3.out]
                 exact hm7)
               have hm9 : (asc el).length ≤ 40 := hasc
               clear hm7 hr7)
            | fail)
          go_roundw
          case rel => exact ⟨k + 1, _, _, _, Y1, Y2, Y3, d1, d2, d3, m3 + (asc el).length, rfl, rfl, rfl, by go_num, by omega, HF⟩
          case measure => simp only [intOf]; omega
        · obtain ⟨adE, rfl, _⟩ := HSI0.out.2.2.2.2 (show 0 < en by omega)
          have hgt : (en : Int) > 40 := by omega
          have HSX0 := HSI0.out.take (k := 40) (by simp only; omega)
          have hec : en ≤ ec := HSI0.out.1
          have hc40 : 40 ≤ ec := by omega
          have hc41 : (40 : Int) ≤ (ec : Int) := by omega
          obtain ⟨el, hel⟩ : ∃ el, el = el0.take 40 := ⟨_, rfl⟩
          have HSX : Hid (SI w w.heap.size (some adE) 40 ec el) := Lib.hid (by rw [hel]; exact HSX0)
          have HEL : Hid (el.length = 40) := Lib.hid HSX.out.len
          have hasc : (asc el).length ≤ 40 := by have := asc_len' el; have := HEL.out; omega
          have HCUT : Hid (el = (ls.getD k dA).l.take 40) := Lib.hid (by rw [HE0.out, hel])
          clear HSI0 HE0 HSX0 hel hec
          go_wp2_with (first
            | (refine wpList_append_mid rfl (.tmp 43) (.tmp 45) 30 rfl w.heap.size 22 i0 _ 1 24 Try.underlying30 hi0 hz0 hz1 hz2 rfl (by omega) (.slice X1 k c1) k _ rfl (HR1.out.alloc_ _) ⟨_, 0, none⟩ 1 1 [.slice (some adE) 40 ec] rfl rfl (World.news_of_block (cs := #[.slice (some adE) 40 ec]) (t := 22) (fr := (0, 0)) (heap_alloc_new _ _)) (by simp [Value.oneCell']) (by unfold maxLen; omega) (by omega) (by simp; omega) ?_
               intro v' w3 hmm hran
               obtain ⟨Y1, d1, rfl⟩ := hmm.form
               have HM1 := Lib.hid hmm
               have HN1 := Lib.hid hran.alloc
               have hb3 : Below w.heap.size wr w3 := (Below.refl _ _).grown hran.alloc.grown hNw (fun g hg => (HR1.out.lt g hg).1)
               have HSX3 := Lib.hid ((HSX.out.below (HT.out.below.trans hb3)).more (Nat.le_trans hNw hran.alloc.grown.size))
               have hR2 : Mid w3 w.heap.size 22 1 (.slice X2 k c2) k ((List.zipWith fullOf own gs).map Ar.v) := HR2.out.same fun g hg => HN1.out.grown.block g (HR2.out.lt g hg).2 (fun e => HT.out.ts.s12 g e.symm hg)
               have hR3 : Mid w3 w.heap.size 3 1 (.slice X3 m3 c3) m3 (ks .i64 al) := HR3.out.on_ran HR1.out (by decide) HN1.out
               replace HR2 := Lib.hid hR2
               replace HR3 := Lib.hid hR3
               have hN3 : w.heap.size ≤ w3.heap.size := Nat.le_trans hNw hran.alloc.grown.size
               clear hmm hran hb3 hR2 hR3)
            | (go_at_call 15; refine (roomy_i _ _ _ el (-5) _ HSX3.out.2.2.2 (by omega)).mono ?_
               rintro e w4 ⟨rfl, hq, hb4⟩
               have hsl : sl w3.heap.size (el.length + 80) = .slice (some ⟨w3.heap.size, 0, none⟩) (40 + 80) (40 + 80) := (by rw [HEL.out]; rfl)
               rw [hsl]
               clear hsl
               have HQ4 := Lib.hid (wb_roomy hq)
               have HB4 := Lib.hid hb4
               have hR2 : Mid w4 w.heap.size 22 1 (.slice X2 k c2) k ((List.zipWith fullOf own gs).map Ar.v) := HR2.out.same fun g hg => hb4.block g (HR2.out.lt g hg).2
               have hR3 : Mid w4 w.heap.size 3 1 (.slice X3 m3 c3) m3 (ks .i64 al) := HR3.out.same fun g hg => hb4.block g (HR3.out.lt g hg).2
               replace HR2 := Lib.hid hR2
               replace HR3 := Lib.hid hR3
               have hN4 : w.heap.size ≤ w4.heap.size := Nat.le_trans hN3 hb4.size
               have HSX4 := Lib.hid (HSX3.out.on hb4)
               clear hq hb4 hR2 hR3 HSX3)
            | (refine wpList_append_mid rfl (.tmp 47) (.tmp 50) 30 rfl w.heap.size 22 i0 _ 1 24 Try.underlying30 hi0 hz0 hz1 hz2 rfl (by omega) (.slice X2 k c2) k _ rfl (HR2.out.alloc_ _) ⟨_, 0, none⟩ 1 1 [.slice (some ⟨w3.heap.size, 0, none⟩) (40 + 80) (40 + 80)] rfl rfl (World.news_of_block (cs := #[.slice (some ⟨w3.heap.size, 0, none⟩) (40 + 80) (40 + 80)]) (t := 22) (fr := (0, 0)) (heap_alloc_new _ _)) (by simp [Value.oneCell']) (by unfold maxLen; omega) (by omega) (by simp; omega) ?_
               intro v' w5 hmm hran
               obtain ⟨Y2, d2, rfl⟩ := hmm.form
               have HM2 := Lib.hid hmm
               have HN2 := Lib.hid hran.alloc
               have hb5 : Below w.heap.size w4 w5 := (Below.refl _ _).grown hran.alloc.grown hN4 (fun g hg => (HR2.out.lt g hg).1)
               have hR3 : Mid w5 w.heap.size 3 1 (.slice X3 m3 c3) m3 (ks .i64 al) := HR3.out.on_ran HR2.out (by decide) HN2.out
               replace HR3 := Lib.hid hR3
               have hN5 : w.heap.size ≤ w5.heap.size := Nat.le_trans hN4 hran.alloc.grown.size
               have HSX5 : Hid (SI w5 w5.heap.size (some adE) 40 ec el) := Lib.hid ((HSX.out.below (((HT.out.below.trans ((Below.refl _ _).grown HN1.out.grown hNw (fun g hg => (HR1.out.lt g hg).1))).trans (HB4.out.mono hN3)).trans hb5)).more hN5)
               clear hmm hran hb5 hR3 HSX4)
            | (go_at_call 9; refine (rising_mid _ _ _ _ _ HSX5.out (by omega)).mono ?_
               rintro e w6 ⟨v6, rfl, hm6, hb6⟩
               obtain ⟨A6, c6, rfl⟩ := hm6.form
               have HM6 := Lib.hid hm6
               have HB6 := Lib.hid hb6
               have hR3 : Mid w6 w.heap.size 3 1 (.slice X3 m3 c3) m3 (ks .i64 al) := HR3.out.same fun g hg => hb6.block g (HR3.out.lt g hg).2
               replace HR3 := Lib.hid hR3
               have hN6 : w.heap.size ≤ w6.heap.size := Nat.le_trans hN5 hb6.size
               clear hm6 hb6 hR3 HSX5)
            | (refine wpList_append_src (by first | rfl | kernel_rfl) (.tmp 52) (.tmp 54) 22 rfl w.heap.size 3 j0 _ 1 8 Try.underlying22 hj0 hy0 hy1 hy2 rfl (by omega) (.slice X3 m3 c3) m3 _ rfl HR3.out _ A6 _ c6 (ks .i64 (asc el)) rfl HM6.out.reads (ks_one .i64 _) (by unfold maxLen; omega) (by omega) hN6 ?_
               intro v7 w7 hm7 hr7
               obtain ⟨Y3, d3, rfl⟩ := hm7.form
               have HF : Hid (T1 ls (own ++ [⟨(some adE), 40, ec, el⟩]) (gs ++ [w3.heap.size]) (al ++ asc el) w w7 (k + 1) (.slice Y1 (k + 1) d1) (.slice Y2 (k + 1) d2) (.slice Y3 (m3 + (asc el).length) d3)) := Lib.hid (by
                 refine HT.out.next (a := ⟨(some adE), 40, ec, el⟩) HKL.out HCUT.out HSX.out HN1.out HM1.out HB4.out HQ4.out HN2.out HM2.out HB6.out hr7 ?_
                 rw [ks_append, HM3.out]
                 exact hm7)
               have hm9 : (asc el).length ≤ 40 := hasc
               clear hm7 hr7)
            | fail)
          go_roundw
          case rel => exact ⟨k + 1, _, _, _, Y1, Y2, Y3, d1, d2, d3, m3 + (asc el).length, rfl, rfl, rfl, by go_num, by omega, HF⟩
          case measure => simp only [intOf]; omega
      · rename World => w1
        have hkn : ¬ (k : Int) < (n : Int) := by omega
        have hk8 : k ≤ 8 := by omega
        have HT2 := Lib.hid HT.out.done
        have hm3 : m3 = al.length := by
          have h1 := HT.out.ts.r3
          obtain ⟨_, _, e⟩ := h1.form
          injection e with _ e _
        have hm39 : m3 ≤ 320 := by have := HT.out.len3; omega
        have HAL : Hid (SI w1 w1.heap.size X3 m3 c3 al) := Lib.hid (by subst hm3; exact HT.out.ts.r3.si)
        have HEA := Lib.hid HT.out.ea
        have HB := Lib.hid HT.out.below
        clear HT hm3 hk hlt
        obtain ⟨gv, hgv⟩ : ∃ gv, gv = List.zipWith givenOf own gs := ⟨_, rfl⟩
        have HGV := Lib.hid hgv
        have HGL : Hid (gv.length = k) := Lib.hid (by rw [hgv]; exact given_len HT2.out.len HT2.out.lg)
        have HGLL : Hid (gv.map Ar.l = own.map Ar.l) := Lib.hid (by rw [hgv]; exact given_l (HT2.out.len.trans HT2.out.lg.symm))
        clear hgv
        go_wp2
        go_loopw [10, 59] (fun V i w2 => ∃ (j : Nat) (X4 : Option Addr) (c4 : Nat), V = .slice X4 j c4 ∧ i = .int .i64 j ∧ j ≤ k ∧ Hid (T3 own gs w1.heap.size w1 w2 j (.slice X4 j c4))) (fun _ i _ => k - (intOf i).toNat)
        case atStart => exact ⟨0, none, 0, rfl, rfl, Nat.zero_le _, Lib.hid ⟨Mid.nil _ _ _ _, Below.refl _ _, Nat.le_refl _⟩⟩
        case round =>
          rename World => w2
          obtain ⟨j, X4, c4, rfl, rfl, hj, H3⟩ := hrel
          by_cases hltj : j < k
          · obtain ⟨adF, hadF, hcF, _⟩ := (HT2.out.full.below H3.out.below).at_ hltj
            obtain ⟨adO, hadO, hcO, _⟩ := (HT2.out.own_.below H3.out.below).at_ hltj
            subst hadF hadO
            rw [zip_get fullOf dA (by rw [HT2.out.len]; exact hltj) (by rw [HT2.out.lg]; exact hltj)] at hcF
            have HGN : Hid (gv.take (j + 1) = gv.take j ++ [givenOf (own.getD j dA) (gs.getD j 0)]) := Lib.hid (by
              have e := zip_get givenOf dA (own := own) (gs := gs) (i := j) (by rw [HT2.out.len]; exact hltj) (by rw [HT2.out.lg]; exact hltj)
              rw [List.take_succ_eq_append_getElem (by rw [HGL.out]; exact hltj), ← e, ← HGV.out, List.getD_eq_getElem?_getD, List.getElem?_eq_getElem (by rw [HGL.out]; exact hltj)]; rfl)
            have hen40 : (own.getD j dA).n ≤ 40 := (HT2.out.n40 _ (getA_mem (by rw [HT2.out.len]; exact hltj))).2
            have HFB : Hid ((adF.add j).block < w1.heap.size ∧ (adO.add j).block < w1.heap.size) := Lib.hid (by
              obtain ⟨a1, e1, hc1, _⟩ := HT2.out.full.at_ hltj
              obtain ⟨a2, e2, hc2, _⟩ := HT2.out.own_.at_ hltj
              injection e1 with e1
              injection e2 with e2
              rw [e1, e2]
              exact ⟨World.block_lt_of_cell? _ _ hc1, World.block_lt_of_cell? _ _ hc2⟩)
            generalize own.getD j dA = e at *
            generalize gs.getD j 0 = g at *
            obtain ⟨eA, en, ec, el⟩ := e
            simp only [Ar.v, fullOf] at hcF hcO
            simp only at hen40
            have hs1 : w2.drew.cell? (adF.add j) = some (.slice (some ⟨g, 0, none⟩) (en + 80) (en + 80)) := hcF
            have hs2 : w2.drew.cell? (adO.add j) = some (.slice eA en ec) := hcO
            have HR4 : Hid (Mid w2.drew w1.heap.size 22 1 (.slice X4 j c4) j ((gv.take j).map Ar.v)) := Lib.hid (by rw [HGV.out]; exact H3.out.row.same fun _ _ => rfl)
            have hN2 : w1.heap.size ≤ w2.drew.heap.size := H3.out.le
            have hN2' : w1.heap.size ≤ w2.heap.size := H3.out.le
            have HB2 : Hid (Below w1.heap.size w1 w2.drew) := Lib.hid H3.out.below.drew
            have hle1 : (en : Int) ≤ ((en + 80 : Nat) : Int) := by omega
            have hle2 : (en : Int) ≤ (en : Int) + 80 := by omega
            have hk1 : ∀ o, (w2.alloc o).drew.cell? (adF.add j) = some (.slice (some ⟨g, 0, none⟩) (en + 80) (en + 80)) := fun o => (World.cell?_alloc_lt w2 o _ (Nat.lt_of_lt_of_le HFB.out.1 hN2')).trans hs1
            have hk2 : ∀ o, (w2.alloc o).drew.cell? (adO.add j) = some (.slice eA en ec) := fun o => (World.cell?_alloc_lt w2 o _ (Nat.lt_of_lt_of_le HFB.out.2 hN2')).trans hs2
            clear hcF hcO H3
            go_wp2
            go_region_held3 (fun w' => w'.cell? (adF.add j) = some (.slice (some ⟨g, 0, none⟩) (en + 80) (en + 80)) ∧ w'.cell? (adO.add j) = some (.slice eA en ec)) (first | (go_keep; done) | exact ⟨r1, r2⟩ | exact ⟨hk1 _, hk2 _⟩)
              (first
                | (refine step_append_mid (by rfl) _ _ _ (by rfl) w1.heap.size 22 i0 _ 1 24 Try.underlying30 hi0 hz0 hz1 hz2 rfl (by omega) (.slice X4 j c4) j ((gv.take j).map Ar.v) (by rfl) (HR4.out.alloc_ _) ⟨w2.drew.heap.size, 0, none⟩ 1 1 [.slice (some ⟨g, 0, none⟩) en (en + 80)] (by rfl) rfl (World.news_of_block (cs := #[.slice (some ⟨g, 0, none⟩) en (en + 80)]) (t := 22) (fr := (0, 0)) (heap_alloc_new _ _)) (by simp [Value.oneCell']) (by unfold maxLen; omega) (by omega) (by simp; omega) ?_
                   intro v' w3 hmm hran
                   obtain ⟨Y4, d4, rfl⟩ := hmm.form
                   have hbl : Below w1.heap.size w2.drew w3 := (Below.refl _ _).grown hran.alloc.grown hN2 (fun g hg => (HR4.out.lt g hg).1)
                   have r1 : w3.cell? (adF.add j) = some (.slice (some ⟨g, 0, none⟩) (en + 80) (en + 80)) := (hbl.cell HFB.out.1).trans hs1
                   have r2 : w3.cell? (adO.add j) = some (.slice eA en ec) := (hbl.cell HFB.out.2).trans hs2
                   have HF : Hid (T3 own gs w1.heap.size w1 w3 (j + 1) (.slice Y4 (j + 1) d4)) := Lib.hid (by
                     refine ⟨?_, HB2.out.trans hbl, Nat.le_trans hN2 hbl.size⟩
                     rw [← HGV.out, HGN.out, List.map_append]
                     exact hmm)
                   clear hmm hran hbl))
            go_wp2
            go_roundw
            case rel => exact ⟨j + 1, Y4, d4, rfl, by go_num, by omega, HF⟩
            case measure => simp only [intOf]; omega
          · obtain rfl : j = k := by omega
            replace HB := Lib.hid (after HB.out H3.out.below)
            replace HAL := Lib.hid (HAL.out.on H3.out.below)
            have HG : Hid (LL w2 w2.heap.size X4 j c4 gv) := Lib.hid (by
              have h1 := H3.out.row
              rw [← HGV.out, List.take_of_length_le (by rw [HGL.out]; exact Nat.le_refl _)] at h1
              refine row_ll h1 (fun e he => ?_)
              rw [HGV.out] at he
              exact (HT2.out.given e he).on H3.out.below)
            replace HT2 := Lib.hid (HT2.out.on H3.out.below)
            obtain ⟨U, hU⟩ : ∃ U, U = uni (own.map Ar.l) := ⟨_, rfl⟩
            have HUE := Lib.hid hU
            have HSET : Hid (foldI [] al = U) := Lib.hid (by rw [hU, HEA.out]; rfl)
            have HU4 : Hid (U.length ≤ m3) := Lib.hid (by
              have h1 := foldI_len al []
              rw [HSET.out] at h1
              have h2 := HAL.out.len
              rw [List.length_nil] at h1; omega)
            clear hU H3 hj hltj HEA
            go_wp2_with (first
              | (go_at_call 16; refine (set_any _ _ _ _ _ HAL.out (by omega)).mono ?_
                 rintro e w3 ⟨v3, rfl, hm3', hb3⟩
                 rw [HSET.out] at hm3'
                 obtain ⟨AU, cU, rfl⟩ := hm3'.form
                 have HU := Lib.hid hm3'.si
                 replace HB := Lib.hid (after HB.out hb3)
                 replace HG := Lib.hid (HG.out.on hb3)
                 replace HT2 := Lib.hid (HT2.out.on hb3)
                 have hU9 := HU4.out
                 clear hm3' hb3 HAL HSET)
              | fail)
            obtain ⟨nU, hnU⟩ : ∃ nU, nU = U.length := ⟨_, rfl⟩
            have HNU := Lib.hid hnU.symm
            rw [← hnU] at hU9
            rw [← hnU]
            have HU' : Hid (SI w3 w3.heap.size AU nU cU U) := Lib.hid (by rw [hnU]; exact HU.out)
            clear hnU HU
            have HI0 := Lib.hid (T4.nil w3)
            go_loopw [13, 80] (fun V i wq => ∃ (q m cI : Nat) (AI : Option Addr), V = .slice AI m cI ∧ i = .int .i64 q ∧ q ≤ nU ∧ m ≤ q ∧ Hid (m = ((U.take q).filter (inB own)).length ∧ T4 ((U.take q).filter (inB own)) w3.heap.size w3 wq (.slice AI m cI))) (fun _ i _ => nU - (intOf i).toNat)
            case atStart => exact ⟨0, 0, 0, none, rfl, rfl, Nat.zero_le _, Nat.le_refl _, Lib.hid ⟨rfl, HI0.out⟩⟩
            case round =>
              rename World => wq
              clear HI0
              obtain ⟨q, m, cI, AI, rfl, rfl, hq, hm, HI⟩ := hrel
              by_cases hltq : q < nU
              · have hqU : q < U.length := by rw [HNU.out]; exact hltq
                obtain ⟨adU, hadU, hx1⟩ := (HU'.out.on HI.out.2.below).2.2.2.kat hltq
                subst hadU
                have HFN := Lib.hid (filter_snoc (p := inB own) hqU)
                have HT3 := Lib.hid (HT2.out.on HI.out.2.below)
                obtain ⟨x, hx⟩ : ∃ x, x = U.getD q 0 := ⟨_, rfl⟩
                rw [← hx] at hx1 HFN
                clear hx hqU
                go_wp2
                go_loopw [17, 86] (fun mv i wr2 => ∃ j' : Nat, mv = .int .i64 (cnt (own.take j') x) ∧ i = .int .i64 j' ∧ j' ≤ j ∧ Hid (Below wq.heap.size wq wr2)) (fun _ i _ => j - (intOf i).toNat)
                case atStart => exact ⟨0, rfl, rfl, Nat.zero_le _, Lib.hid (Below.refl _ _)⟩
                case round =>
                  rename World => wr2
                  obtain ⟨j', rfl, rfl, hj', HBR⟩ := hrel
                  by_cases hltj : j' < j
                  · have HT4 := Lib.hid (HT3.out.on HBR.out)
                    obtain ⟨adO, hadO, hcO, hsO⟩ := HT4.out.own_.at_ hltj
                    subst hadO
                    have hjo : j' < own.length := by rw [HT2.out.len]; exact hltj
                    have HCN := Lib.hid (cnt_next hjo x)
                    have hc8 : cnt (own.take j') x ≤ 8 := by have := cnt_le (own.take j') x; rw [List.length_take] at this; omega
                    have hen40 : (own.getD j' dA).n ≤ 40 := (HT2.out.n40 _ (getA_mem hjo)).2
                    generalize own.getD j' dA = e at *
                    obtain ⟨eA, en, ec, el⟩ := e
                    simp only [Ar.v] at hcO
                    simp only at hsO hen40
                    have HSO := Lib.hid hsO
                    obtain ⟨cn, hcn⟩ : ∃ cn, cn = cnt (own.take j') x := ⟨_, rfl⟩
                    rw [← hcn] at HCN hc8 ⊢
                    clear hsO hjo hcn
                    by_cases hin : x ∈ asc el
                    · have HD : Hid (decide (x ∈ asc el) = true) := Lib.hid (decide_eq_true hin)
                      have HC1 : Hid (cnt (own.take (j' + 1)) x = cn + 1) := Lib.hid (by rw [HCN.out, if_pos HD.out])
                      clear hin
                      go_wp2_with (first
                        | (go_at_call 9; refine (rising_any _ _ _ _ _ HSO.out (by omega)).mono ?_
                           rintro e wa ⟨Aa, na, ca, rfl, hsa, hba⟩
                           have HSA := Lib.hid hsa
                           replace HBR := Lib.hid (after HBR.out hba)
                           clear hsa hba)
                        | (go_at_call 14; refine (has_any _ _ _ _ (asc el) x _ HSA.out).mono ?_
                           rintro e w' ⟨rfl, hw'⟩
                           rw [hw', HD.out]
                           clear hw')
                        | fail)
                      go_roundw
                      case rel => exact ⟨j' + 1, by rw [HC1.out]; go_num, by go_num, by omega, HBR⟩
                      case measure => simp only [intOf]; omega
                    · have HD : Hid (decide (x ∈ asc el) = false) := Lib.hid (decide_eq_false hin)
                      have HC1 : Hid (cnt (own.take (j' + 1)) x = cn) := Lib.hid (by rw [HCN.out, HD.out]; rfl)
                      clear hin
                      go_wp2_with (first
                        | (go_at_call 9; refine (rising_any _ _ _ _ _ HSO.out (by omega)).mono ?_
                           rintro e wa ⟨Aa, na, ca, rfl, hsa, hba⟩
                           have HSA := Lib.hid hsa
                           replace HBR := Lib.hid (after HBR.out hba)
                           clear hsa hba)
                        | (go_at_call 14; refine (has_any _ _ _ _ (asc el) x _ HSA.out).mono ?_
                           rintro e w' ⟨rfl, hw'⟩
                           rw [hw', HD.out]
                           clear hw')
                        | fail)
                      go_roundw
                      case rel => exact ⟨j' + 1, by rw [HC1.out], by go_num, by omega, HBR⟩
                      case measure => simp only [intOf]; omega
                  · obtain rfl : j' = j := by omega
                    have hT : own.take j' = own := List.take_of_length_le (by rw [HT2.out.len]; exact Nat.le_refl _)
                    rw [hT]
                    obtain ⟨cn, hcn⟩ : ∃ cn, cn = cnt own x := ⟨_, rfl⟩
                    have HIB : Hid (inB own x = decide (cn = j')) := Lib.hid (by unfold inB; rw [hcn, HT2.out.len])
                    rw [← hcn]
                    have HI2 := Lib.hid (HI.out.2.on HBR.out)
                    have HROW : Hid (Mid wr2 w3.heap.size 3 1 (.slice AI m cI) m (ks .i64 ((U.take q).filter (inB own)))) := Lib.hid (by have h1 := HI2.out.row; rw [← HI.out.1] at h1; exact h1)
                    have hw3 : w3.heap.size ≤ wr2.heap.size := HI2.out.le
                    clear hT hcn
                    by_cases hcj : cn = j'
                    · have hcj' : (cn : Int) = (j' : Int) := by omega
                      have HFX : Hid ((U.take (q + 1)).filter (inB own) = (U.take q).filter (inB own) ++ [x]) := Lib.hid (by rw [HFN.out, HIB.out, decide_eq_true hcj]; rfl)
                      clear hcj
                      go_wp2_with (first
                        | (refine wpList_append_mid rfl (.tmp 101) (.tmp 103) 22 rfl w3.heap.size 3 j0 _ 1 8 Try.underlying22 hj0 hy0 hy1 hy2 rfl (by omega) (.slice AI m cI) m _ rfl (HROW.out.alloc_ _) ⟨_, 0, none⟩ 1 1 [.int .i64 x] rfl rfl (World.news_of_block (cs := #[.int .i64 x]) (t := 3) (fr := (0, 0)) (heap_alloc_new _ _)) (by simp [Value.oneCell']) (by unfold maxLen; omega) (by omega) (by simp; omega) ?_
                           intro v' w9 hmm hran
                           obtain ⟨Y9, d9, rfl⟩ := hmm.form
                           have HF : Hid (m + 1 = ((U.take (q + 1)).filter (inB own)).length ∧ T4 ((U.take (q + 1)).filter (inB own)) w3.heap.size w3 w9 (.slice Y9 (m + 1) d9)) := Lib.hid (by
                             rw [HFX.out]
                             exact ⟨by rw [List.length_append, ← HI.out.1]; rfl, HI2.out.snoc HI.out.1 hran.alloc hmm⟩)
                           clear hmm hran)
                        | fail)
                      go_roundw
                      case rel => exact ⟨q + 1, m + 1, d9, Y9, rfl, by go_num, by omega, by omega, HF⟩
                      case measure => simp only [intOf]; omega
                    · have hcj' : ¬ (cn : Int) = (j' : Int) := by omega
                      have HF : Hid (m = ((U.take (q + 1)).filter (inB own)).length ∧ T4 ((U.take (q + 1)).filter (inB own)) w3.heap.size w3 wr2 (.slice AI m cI)) := Lib.hid (by
                        rw [HFN.out, HIB.out, decide_eq_false hcj, if_neg (by simp), List.append_nil]
                        exact ⟨HI.out.1, HI2.out⟩)
                      clear hcj
                      go_wp2
                      go_roundw
                      case rel => exact ⟨q + 1, m, cI, AI, rfl, by go_num, by omega, by omega, HF⟩
                      case measure => simp only [intOf]; omega
              · obtain rfl : nU = q := by omega
                have HINT : Hid (SI wq wq.heap.size AI m cI (U.filter (inB own))) := Lib.hid (by
                  have h1 := HI.out.2
                  have h2 := HI.out.1
                  rw [List.take_of_length_le (by rw [HNU.out]; exact Nat.le_refl _)] at h1 h2
                  exact h1.si h2)
                replace HB := Lib.hid (after HB.out HI.out.2.below)
                replace HG := Lib.hid (HG.out.on HI.out.2.below)
                replace HT2 := Lib.hid (HT2.out.on HI.out.2.below)
                replace HU' := Lib.hid (HU'.out.on HI.out.2.below)
                clear HI hq hltq
                by_cases h2 : 2 ≤ j
                · have h2' : (j : Int) ≥ 2 := by omega
                  have h1j : (1 : Int) < (j : Int) := by omega
                  have h0j : (0 : Int) < (j : Int) := by omega
                  have HO2 : Hid (2 ≤ own.length) := Lib.hid (by rw [HT2.out.len]; exact h2)
                  obtain ⟨adO, hadO, hc0, hs0⟩ := HT2.out.own_.at_ (k := 0) (by omega)
                  subst hadO
                  have h0n : (own.getD 0 dA).n ≤ 40 := (HT2.out.n40 _ (getA_mem (by have := HO2.out; omega))).2
                  have h1n : (own.getD 1 dA).n ≤ 40 := (HT2.out.n40 _ (getA_mem (by have := HO2.out; omega))).2
                  obtain ⟨e0, he0⟩ : ∃ e0, e0 = own.getD 0 dA := ⟨_, rfl⟩
                  obtain ⟨e1, he1⟩ : ∃ e1, e1 = own.getD 1 dA := ⟨_, rfl⟩
                  rw [← he0] at hc0 hs0 h0n
                  rw [← he1] at h1n
                  have HE0 := Lib.hid he0
                  have HE1 := Lib.hid he1
                  clear he0 he1
                  obtain ⟨aA, an, ac, al0⟩ := e0
                  obtain ⟨bA, bn, bc, bl⟩ := e1
                  simp only [Ar.v] at hc0
                  have hc00 : wq.cell? adO = some (.slice aA an ac) := by have := hc0; unfold Addr.add at this; simpa using this
                  simp only at hs0 h0n h1n
                  have HS0 := Lib.hid hs0
                  have hlr : (asc al0).length ≤ 40 := by have := asc_len' al0; have := hs0.len; omega
                  clear hs0
                  go_wp2_with (first
                    | (go_at_call 9; refine (rising_any _ _ _ _ _ HS0.out (by omega)).mono ?_
                       rintro e w4 ⟨A4, n4, c5, rfl, hs4, hb4⟩
                       have hn4 : n4 ≤ 40 := (by have := hs4.len; omega)
                       have HS4 := Lib.hid hs4
                       replace HB := Lib.hid (after HB.out hb4)
                       replace HG := Lib.hid (HG.out.on hb4)
                       replace HT2 := Lib.hid (HT2.out.on hb4)
                       replace HU' := Lib.hid (HU'.out.on hb4)
                       replace HINT := Lib.hid (HINT.out.on hb4)
                       replace HS0 := Lib.hid (HS0.out.on hb4)
                       clear hs4 hb4 hc0 hc00)
                    | fail)
                  have HM0 := Lib.hid (T4.nil w4)
                  have HLR : Hid ((asc al0).length = n4) := Lib.hid HS4.out.len
                  go_loopw [14, 114] (fun V i wr => ∃ (q m cM : Nat) (AM : Option Addr), V = .slice AM m cM ∧ i = .int .i64 q ∧ q ≤ n4 ∧ m ≤ q ∧ Hid (m = (((asc al0).take q).filter fun y => decide (y ∈ asc bl) == false).length ∧ T4 (((asc al0).take q).filter fun y => decide (y ∈ asc bl) == false) w4.heap.size w4 wr (.slice AM m cM))) (fun _ i _ => n4 - (intOf i).toNat)
                  case atStart => exact ⟨0, 0, 0, none, rfl, rfl, Nat.zero_le _, Nat.le_refl _, Lib.hid ⟨rfl, HM0.out⟩⟩
                  case round =>
                    rename World => w5
                    clear HM0
                    obtain ⟨q, m5, cM, AM, rfl, rfl, hq, hm5, HI⟩ := hrel
                    by_cases hltq : q < n4
                    · have hqU : q < (asc al0).length := by rw [HLR.out]; exact hltq
                      obtain ⟨adR, hadR, hx1⟩ := (HS4.out.on HI.out.2.below).2.2.2.kat hltq
                      subst hadR
                      have HFN := Lib.hid (filter_snoc (p := fun y => decide (y ∈ asc bl) == false) hqU)
                      have HT5 := Lib.hid (HT2.out.on HI.out.2.below)
                      obtain ⟨x, hx⟩ : ∃ x, x = (asc al0).getD q 0 := ⟨_, rfl⟩
                      rw [← hx] at hx1 HFN
                      clear hx hqU
                      obtain ⟨ad1, had1, hc1, hs1⟩ := HT5.out.own_.at_ (k := 1) (by omega)
                      injection had1 with had1
                      rw [← had1, ← HE1.out, add1_eq] at hc1
                      rw [← HE1.out] at hs1
                      simp only [Ar.v] at hc1
                      simp only at hs1
                      have HS1 := Lib.hid hs1
                      have HI2 := Lib.hid HI.out.2
                      have HW4 : Hid (w4.heap.size ≤ w5.heap.size) := Lib.hid HI.out.2.le
                      clear hs1 had1
                      by_cases hin : x ∈ asc bl
                      · have HD : Hid (decide (x ∈ asc bl) = true) := Lib.hid (decide_eq_true hin)
                        have HFX : Hid (((asc al0).take (q + 1)).filter (fun y => decide (y ∈ asc bl) == false) = ((asc al0).take q).filter fun y => decide (y ∈ asc bl) == false) := Lib.hid (by rw [HFN.out, HD.out]; simp)
                        clear hin
                        go_wp2_with (first
                          | (go_at_call 9; refine (rising_any _ _ _ _ _ HS1.out (by omega)).mono ?_
                             rintro e wa ⟨Aa, na, ca, rfl, hsa, hba⟩
                             have HSA := Lib.hid hsa
                             replace HI2 := Lib.hid (HI2.out.on hba)
                             clear hsa hba)
                          | (go_at_call 14; refine (has_any _ _ _ _ (asc bl) x _ HSA.out).mono ?_
                             rintro e w' ⟨rfl, hw'⟩
                             rw [hw', HD.out]
                             clear hw')
                          | fail)
                        go_roundw
                        case rel => exact ⟨q + 1, m5, cM, AM, rfl, by go_num, by omega, by omega, Lib.hid (by rw [HFX.out]; exact ⟨HI.out.1, HI2.out⟩)⟩
                        case measure => simp only [intOf]; omega
                      · have HD : Hid (decide (x ∈ asc bl) = false) := Lib.hid (decide_eq_false hin)
                        have HFX : Hid (((asc al0).take (q + 1)).filter (fun y => decide (y ∈ asc bl) == false) = (((asc al0).take q).filter fun y => decide (y ∈ asc bl) == false) ++ [x]) := Lib.hid (by rw [HFN.out, HD.out]; simp)
                        clear hin
                        go_wp2_with (first
                          | (go_at_call 9; refine (rising_any _ _ _ _ _ HS1.out (by omega)).mono ?_
                             rintro e wa ⟨Aa, na, ca, rfl, hsa, hba⟩
                             have HSA := Lib.hid hsa
                             replace HI2 := Lib.hid (HI2.out.on hba)
                             replace HW4 : Hid (w4.heap.size ≤ wa.heap.size) := Lib.hid (Nat.le_trans HW4.out hba.size)
                             have HROW : Hid (Mid wa w4.heap.size 3 1 (.slice AM m5 cM) m5 (ks .i64 (((asc al0).take q).filter fun y => decide (y ∈ asc bl) == false))) := Lib.hid (by have h1 := HI2.out.row; rw [← HI.out.1] at h1; exact h1)
                             have hw4a : w4.heap.size ≤ wa.heap.size := HW4.out
                             clear hsa hba)
                          | (go_at_call 14; refine (has_any _ _ _ _ (asc bl) x _ HSA.out).mono ?_
                             rintro e w' ⟨rfl, hw'⟩
                             rw [hw', HD.out]
                             clear hw')
                          | (refine wpList_append_mid rfl (.tmp 125) (.tmp 127) 22 rfl w4.heap.size 3 j0 _ 1 8 Try.underlying22 hj0 hy0 hy1 hy2 rfl (by omega) (.slice AM m5 cM) m5 _ rfl (HROW.out.alloc_ _) ⟨_, 0, none⟩ 1 1 [.int .i64 x] rfl rfl (World.news_of_block (cs := #[.int .i64 x]) (t := 3) (fr := (0, 0)) (heap_alloc_new _ _)) (by simp [Value.oneCell']) (by unfold maxLen; omega) (by omega) (by simp; omega) ?_
                             intro v' w9 hmm hran
                             obtain ⟨Y9, d9, rfl⟩ := hmm.form
                             have HF : Hid (m5 + 1 = (((asc al0).take (q + 1)).filter fun y => decide (y ∈ asc bl) == false).length ∧ T4 (((asc al0).take (q + 1)).filter fun y => decide (y ∈ asc bl) == false) w4.heap.size w4 w9 (.slice Y9 (m5 + 1) d9)) := Lib.hid (by
                               rw [HFX.out]
                               exact ⟨by rw [List.length_append, ← HI.out.1]; rfl, HI2.out.snoc HI.out.1 hran.alloc hmm⟩)
                             clear hmm hran)
                          | fail)
                        go_roundw
                        case rel => exact ⟨q + 1, m5 + 1, d9, Y9, rfl, by go_num, by omega, by omega, HF⟩
                        case measure => simp only [intOf]; omega
                    · obtain rfl : q = n4 := by omega
                      have HMIN : Hid (SI w5 w5.heap.size AM m5 cM (flt bl false (asc al0))) := Lib.hid (by
                        have h1 := HI.out.2
                        have h2 := HI.out.1
                        rw [List.take_of_length_le (by rw [HLR.out]; exact Nat.le_refl _)] at h1 h2
                        exact h1.si h2)
                      replace HB := Lib.hid (after HB.out HI.out.2.below)
                      replace HG := Lib.hid (HG.out.on HI.out.2.below)
                      replace HT2 := Lib.hid (HT2.out.on HI.out.2.below)
                      replace HU' := Lib.hid (HU'.out.on HI.out.2.below)
                      replace HINT := Lib.hid (HINT.out.on HI.out.2.below)
                      clear HI hq hltq HS4 HS0
                      go_wp2
                      replace HB := Lib.hid (HB.out.drew)
                      replace HG : Hid (LL w5.drew w5.drew.heap.size _ j c4 gv) := Lib.hid (HG.out.on ((Below.refl _ _).drew))
                      replace HT2 : Hid (T2 own gs w5.drew j _ X2 c1 c2) := Lib.hid (HT2.out.on ((Below.refl _ _).drew))
                      replace HU' : Hid (SI w5.drew w5.drew.heap.size AU nU cU U) := Lib.hid (HU'.out.on ((Below.refl _ _).drew))
                      replace HINT : Hid (SI w5.drew w5.drew.heap.size AI m cI (U.filter (inB own))) := Lib.hid (HINT.out.on ((Below.refl _ _).drew))
                      replace HMIN : Hid (SI w5.drew w5.drew.heap.size AM m5 cM (flt bl false (asc al0))) := Lib.hid (HMIN.out.on ((Below.refl _ _).drew))
                      obtain ⟨adG, hadG, hg0, hgs0⟩ := HG.out.at_ (k := 0) (by omega)
                      obtain ⟨adG', hadG', hg1, hgs1⟩ := HG.out.at_ (k := 1) (by omega)
                      rw [hadG] at hadG'
                      injection hadG' with hadG'
                      subst hadG hadG'
                      rw [HGV.out] at hg0 hgs0 hg1 hgs1
                      rw [zip_get givenOf dA (by have := HO2.out; omega) (by rw [HT2.out.lg]; omega), ← HE0.out] at hg0 hgs0
                      rw [zip_get givenOf dA (by have := HO2.out; omega) (by rw [HT2.out.lg]; omega), ← HE1.out] at hg1 hgs1
                      generalize gs.getD 0 0 = g0 at *
                      generalize gs.getD 1 0 = g1 at *
                      simp only [Ar.v, givenOf] at hg0 hg1
                      simp only [givenOf] at hgs0 hgs1
                      have hg00 : w5.drew.cell? adG = some (.slice (some ⟨g0, 0, none⟩) an (an + 80)) := by have := hg0; unfold Addr.add at this; simpa using this
                      rw [add1_eq] at hg1
                      have HGS0 := Lib.hid hgs0
                      have HGS1 := Lib.hid hgs1
                      clear hgs0 hgs1 hg0
                      have hj0 : (0 < j) = True := by simp; omega
                      go_region_held3 (fun w' => w'.cell? adG = some (.slice (some ⟨g0, 0, none⟩) an (an + 80)) ∧ w'.cell? ⟨adG.block, adG.off + 1, none⟩ = some (.slice (some ⟨g1, 0, none⟩) bn (bn + 80))) (first | (go_keep; done) | exact ⟨s1, s2⟩ | exact ⟨r1, r2⟩ | exact ⟨hg00, hg1⟩)
                        (first
                          | (go_at_call 11; refine (minus_any _ _ _ _ _ _ _ _ _ HGS0.out HGS1.out (by omega) (by omega)).mono ?_
                             rintro e w6 ⟨A6, n6, c6, rfl, hs6, hb6⟩
                             have r1 : w6.cell? adG = some (.slice (some ⟨g0, 0, none⟩) an (an + 80)) := (hb6.cell (World.block_lt_of_cell? _ _ hg00)).trans hg00
                             have r2 : w6.cell? ⟨adG.block, adG.off + 1, none⟩ = some (.slice (some ⟨g1, 0, none⟩) bn (bn + 80)) := (hb6.cell (World.block_lt_of_cell? _ _ hg1)).trans hg1
                             have HS6 := Lib.hid hs6
                             replace HB := Lib.hid (after HB.out hb6)
                             replace HG := Lib.hid (HG.out.on hb6)
                             replace HT2 := Lib.hid (HT2.out.on hb6)
                             replace HU' := Lib.hid (HU'.out.on hb6)
                             replace HINT := Lib.hid (HINT.out.on hb6)
                             replace HMIN := Lib.hid (HMIN.out.on hb6)
                             clear hs6 hb6)
                          | (go_at_call 8; refine (same_i _ _ _ _ _ _ _ _ _ _ HS6.out.2.2.2 HMIN.out.2.2.2 HS6.out.n9 HMIN.out.n9).mono ?_
                             rintro e w7 ⟨rfl, hb7⟩
                             rw [eqB_true rfl]
                             have s1 : w7.cell? adG = some (.slice (some ⟨g0, 0, none⟩) an (an + 80)) := (hb7.cell (World.block_lt_of_cell? _ _ r1)).trans r1
                             have s2 : w7.cell? ⟨adG.block, adG.off + 1, none⟩ = some (.slice (some ⟨g1, 0, none⟩) bn (bn + 80)) := (hb7.cell (World.block_lt_of_cell? _ _ r2)).trans r2
                             replace HB := Lib.hid (after HB.out hb7)
                             replace HG := Lib.hid (HG.out.on hb7)
                             replace HT2 := Lib.hid (HT2.out.on hb7)
                             replace HU' := Lib.hid (HU'.out.on hb7)
                             replace HINT := Lib.hid (HINT.out.on hb7)
                             clear hb7 HS6 HMIN))
                      clear hg00 hg1 HGS0 HGS1
                      have hmax : (if nn < 0 then (0 : Int) else nn) = ((nn.toNat : Nat) : Int) := by split <;> omega
                      obtain ⟨M, hM⟩ : ∃ M, M = nn.toNat := ⟨_, rfl⟩
                      obtain ⟨mk, hmk⟩ : ∃ mk, mk = min M nU := ⟨_, rfl⟩
                      have hmin : (if nU < M then (nU : Int) else (M : Int)) = (mk : Int) := by split <;> omega
                      rw [← hM] at hmax
                      have HMK : Hid (mk ≤ nU) := Lib.hid (by omega)
                      have HTK : Hid (U.take nn.toNat = U.take mk) := Lib.hid (by
                        rw [hmk, ← hM]
                        have := HNU.out
                        rcases Nat.le_total M nU with h1 | h1
                        · rw [Nat.min_eq_left h1]
                        · rw [Nat.min_eq_right h1, List.take_of_length_le (by omega), List.take_of_length_le (by omega)])
                      have hmk1 : mk ≤ cU := by have := HU'.out.1; omega
                      have HMM : Hid (mk = (U.take nn.toNat).length) := Lib.hid (by rw [hmk, hM, List.length_take, HNU.out])
                      have hmk2 : (mk : Int) ≤ (cU : Int) := by omega
                      clear hM hmk
                      go_wp2
                      have HUN : Hid ((uni (gv.map Ar.l)).length ≤ 100000) := Lib.hid (by rw [HGLL.out, ← HUE.out, HNU.out]; omega)
                      have HIE : Hid (interL (gv.map Ar.l) = U.filter (inB own)) := Lib.hid (by rw [HGLL.out, HUE.out]; exact inter_eq' own)
                      have HUG : Hid (uni (gv.map Ar.l) = U) := Lib.hid (by rw [HGLL.out, HUE.out])
                      have HGN : Hid (∀ e ∈ gv, e.n ≤ 2000) := Lib.hid (by rw [HGV.out]; exact given_n HT2.out)
                      replace HB := Lib.hid (HB.out.drew)
                      replace HG : Hid (LL w7.drew w7.drew.heap.size _ j c4 gv) := Lib.hid (HG.out.on ((Below.refl _ _).drew))
                      replace HT2 : Hid (T2 own gs w7.drew j _ X2 c1 c2) := Lib.hid (HT2.out.on ((Below.refl _ _).drew))
                      replace HU' : Hid (SI w7.drew w7.drew.heap.size AU nU cU U) := Lib.hid (HU'.out.on ((Below.refl _ _).drew))
                      replace HINT : Hid (SI w7.drew w7.drew.heap.size AI m cI (U.filter (inB own))) := Lib.hid (HINT.out.on ((Below.refl _ _).drew))
                      have R0 : Hid True := Lib.hid trivial
                      have R1 : Hid True := Lib.hid trivial
                      go_region_held3 (fun _ => True) (exact trivial)
                        (first
                          | (go_at_call 7; refine (union_any _ _ _ gv _ HG.out (by omega) HUN.out).mono ?_
                             rintro e wa ⟨Aa, na, ca, rfl, hsa, hba⟩
                             rw [HUG.out] at hsa
                             have HSA := Lib.hid hsa
                             replace HB := Lib.hid (after HB.out hba)
                             replace HG := Lib.hid (HG.out.on hba)
                             replace HT2 := Lib.hid (HT2.out.on hba)
                             replace HU' := Lib.hid (HU'.out.on hba)
                             replace HINT := Lib.hid (HINT.out.on hba)
                             clear hsa hba)
                          | (go_at_call 8; clear R0; refine (same_i _ _ _ _ _ _ _ _ _ _ HSA.out.2.2.2 HU'.out.2.2.2 HSA.out.n9 HU'.out.n9).mono ?_
                             rintro e wb ⟨rfl, hbb⟩
                             rw [eqB_true rfl]
                             replace HB := Lib.hid (after HB.out hbb)
                             replace HG := Lib.hid (HG.out.on hbb)
                             replace HT2 := Lib.hid (HT2.out.on hbb)
                             replace HU' := Lib.hid (HU'.out.on hbb)
                             replace HINT := Lib.hid (HINT.out.on hbb)
                             clear hbb HSA)
                          | (go_at_call 10; refine (inter_gen _ _ _ gv _ HG.out (by omega) HGN.out).mono ?_
                             rintro e wc ⟨Ac, nc, cc, rfl, hsc, hbc⟩
                             rw [HIE.out] at hsc
                             have HSC := Lib.hid hsc
                             replace HB := Lib.hid (after HB.out hbc)
                             replace HG := Lib.hid (HG.out.on hbc)
                             replace HT2 := Lib.hid (HT2.out.on hbc)
                             replace HU' := Lib.hid (HU'.out.on hbc)
                             replace HINT := Lib.hid (HINT.out.on hbc)
                             clear hsc hbc)
                          | (go_at_call 8; clear R1; refine (same_i _ _ _ _ _ _ _ _ _ _ HSC.out.2.2.2 HINT.out.2.2.2 HSC.out.n9 HINT.out.n9).mono ?_
                             rintro e wd ⟨rfl, hbd⟩
                             rw [eqB_true rfl]
                             replace HB := Lib.hid (after HB.out hbd)
                             replace HG := Lib.hid (HG.out.on hbd)
                             replace HT2 := Lib.hid (HT2.out.on hbd)
                             replace HU' := Lib.hid (HU'.out.on hbd)
                             clear hbd HSC HINT)
                          | (go_at_call 13; refine (first_any nn _ _ _ gv _ HG.out (by omega) HUN.out).mono ?_
                             rintro e wf ⟨vf, rfl, hmf, hbf⟩
                             rw [HUG.out, ← HMM.out] at hmf
                             obtain ⟨Af, cf, rfl⟩ := hmf.form
                             have HSF := Lib.hid hmf.si
                             replace HB := Lib.hid (after HB.out hbf)
                             replace HT2 := Lib.hid (HT2.out.on hbf)
                             replace HU' := Lib.hid (HU'.out.on hbf)
                             clear hmf hbf)
                          | (go_at_call 8; refine (same_i _ _ _ _ _ _ _ _ _ _ HSF.out.2.2.2 (HU'.out.take HMK.out).2.2.2 HSF.out.n9 (HU'.out.take HMK.out).n9).mono ?_
                             rintro e wg ⟨rfl, hbg⟩
                             rw [eqB_true HTK.out]
                             replace HB := Lib.hid (after HB.out hbg)
                             replace HT2 := Lib.hid (HT2.out.on hbg)
                             clear hbg HSF HU'))
                      go_wp2
                      go_loopw [169] (fun i wr => ∃ q : Nat, i = .int .i64 q ∧ q ≤ j ∧ Hid (Below wg.heap.size wg wr)) (fun i _ => j - (intOf i).toNat)
                      case atStart => exact ⟨0, rfl, Nat.zero_le _, Lib.hid (Below.refl _ _)⟩
                      case round =>
                        rename World => wh
                        obtain ⟨q, rfl, hq, HBH⟩ := hrel
                        have HTH : Hid (T2 own gs wh.drew j _ X2 c1 c2) := Lib.hid (HT2.out.on HBH.out.drew)
                        by_cases hltq : q < j
                        · obtain ⟨adF, hadF, hcF, _⟩ := HTH.out.full.at_ hltq
                          obtain ⟨adP, hadP, hcO, hsO⟩ := HTH.out.own_.at_ hltq
                          subst hadF
                          injection hadP with hadP
                          rw [← hadP] at hcO
                          clear hadP
                          rw [zip_get fullOf dA (by rw [HT2.out.len]; exact hltq) (by rw [HT2.out.lg]; exact hltq)] at hcF
                          have hen40 : (own.getD q dA).n ≤ 40 := (HT2.out.n40 _ (getA_mem (by rw [HT2.out.len]; exact hltq))).2
                          have HWB := Lib.hid (HTH.out.wb q hltq)
                          generalize own.getD q dA = e at *
                          generalize gs.getD q 0 = g at *
                          obtain ⟨eA, en, ec, el⟩ := e
                          simp only [Ar.v, fullOf] at hcF hcO
                          simp only at hen40 hsO
                          have HSO := Lib.hid hsO
                          clear hsO
                          go_wp2
                          go_region_held3 (fun w' => w'.cell? (adF.add q) = some (.slice (some ⟨g, 0, none⟩) (en + 80) (en + 80)) ∧ w'.cell? (adO.add q) = some (.slice eA en ec)) (first | (go_keep; done) | exact ⟨r1, r2⟩ | exact ⟨hcF, hcO⟩)
                            (first
                              | (go_at_call 17; refine (intact_i eA en ec g el (-5) _ HSO.out.2.2.2 HWB.out.2 HWB.out.1 (by omega)).mono ?_
                                 rintro e wi ⟨rfl, hbi⟩
                                 have r1 : wi.cell? (adF.add q) = some (.slice (some ⟨g, 0, none⟩) (en + 80) (en + 80)) := (hbi.cell (World.block_lt_of_cell? _ _ hcF)).trans hcF
                                 have r2 : wi.cell? (adO.add q) = some (.slice eA en ec) := (hbi.cell (World.block_lt_of_cell? _ _ hcO)).trans hcO
                                 have HBI : Hid (Below wg.heap.size wg wi) := Lib.hid (after HBH.out.drew hbi)
                                 clear hbi))
                          go_wp2
                          go_roundw
                          case rel => exact ⟨q + 1, by go_num, by omega, HBI⟩
                          case measure => simp only [intOf]; omega
                        · obtain rfl : q = j := by omega
                          replace HB := Lib.hid (after HB.out HBH.out)
                          clear HTH
                          go_wp2_with (first
                            | (go_at_call 12; refine (runs_any _).mono ?_
                               rintro e wz ⟨rfl, hbz⟩
                               replace HB := Lib.hid (after HB.out hbz)
                               clear hbz)
                            | fail)
                          go_ret
                          exact ⟨rfl, HB.out⟩
                · have h2' : ¬ (j : Int) ≥ 2 := by omega
                  have hmax : (if nn < 0 then (0 : Int) else nn) = ((nn.toNat : Nat) : Int) := by split <;> omega
                  obtain ⟨M, hM⟩ : ∃ M, M = nn.toNat := ⟨_, rfl⟩
                  obtain ⟨mk, hmk⟩ : ∃ mk, mk = min M nU := ⟨_, rfl⟩
                  have hmin : (if nU < M then (nU : Int) else (M : Int)) = (mk : Int) := by split <;> omega
                  rw [← hM] at hmax
                  have HMK : Hid (mk ≤ nU) := Lib.hid (by omega)
                  have HTK : Hid (U.take nn.toNat = U.take mk) := Lib.hid (by
                    rw [hmk, ← hM]
                    have := HNU.out
                    rcases Nat.le_total M nU with h1 | h1
                    · rw [Nat.min_eq_left h1]
                    · rw [Nat.min_eq_right h1, List.take_of_length_le (by omega), List.take_of_length_le (by omega)])
                  have hmk1 : mk ≤ cU := by have := HU'.out.1; omega
                  have HMM : Hid (mk = (U.take nn.toNat).length) := Lib.hid (by rw [hmk, hM, List.length_take, HNU.out])
                  have hmk2 : (mk : Int) ≤ (cU : Int) := by omega
                  clear hM hmk
                  go_wp2
                  have HUN : Hid ((uni (gv.map Ar.l)).length ≤ 100000) := Lib.hid (by rw [HGLL.out, ← HUE.out, HNU.out]; omega)
                  have HIE : Hid (interL (gv.map Ar.l) = U.filter (inB own)) := Lib.hid (by rw [HGLL.out, HUE.out]; exact inter_eq' own)
                  have HUG : Hid (uni (gv.map Ar.l) = U) := Lib.hid (by rw [HGLL.out, HUE.out])
                  have HGN : Hid (∀ e ∈ gv, e.n ≤ 2000) := Lib.hid (by rw [HGV.out]; exact given_n HT2.out)
                  replace HB := Lib.hid (HB.out.drew)
                  replace HG : Hid (LL wq.drew wq.drew.heap.size _ j c4 gv) := Lib.hid (HG.out.on ((Below.refl _ _).drew))
                  replace HT2 : Hid (T2 own gs wq.drew j _ X2 c1 c2) := Lib.hid (HT2.out.on ((Below.refl _ _).drew))
                  replace HU' : Hid (SI wq.drew wq.drew.heap.size AU nU cU U) := Lib.hid (HU'.out.on ((Below.refl _ _).drew))
                  replace HINT : Hid (SI wq.drew wq.drew.heap.size AI m cI (U.filter (inB own))) := Lib.hid (HINT.out.on ((Below.refl _ _).drew))
                  have R0 : Hid True := Lib.hid trivial
                  have R1 : Hid True := Lib.hid trivial
                  go_region_held3 (fun _ => True) (exact trivial)
                    (first
                      | (go_at_call 7; refine (union_any _ _ _ gv _ HG.out (by omega) HUN.out).mono ?_
                         rintro e wa ⟨Aa, na, ca, rfl, hsa, hba⟩
                         rw [HUG.out] at hsa
                         have HSA := Lib.hid hsa
                         replace HB := Lib.hid (after HB.out hba)
                         replace HG := Lib.hid (HG.out.on hba)
                         replace HT2 := Lib.hid (HT2.out.on hba)
                         replace HU' := Lib.hid (HU'.out.on hba)
                         replace HINT := Lib.hid (HINT.out.on hba)
                         clear hsa hba)
                      | (go_at_call 8; clear R0; refine (same_i _ _ _ _ _ _ _ _ _ _ HSA.out.2.2.2 HU'.out.2.2.2 HSA.out.n9 HU'.out.n9).mono ?_
                         rintro e wb ⟨rfl, hbb⟩
                         rw [eqB_true rfl]
                         replace HB := Lib.hid (after HB.out hbb)
                         replace HG := Lib.hid (HG.out.on hbb)
                         replace HT2 := Lib.hid (HT2.out.on hbb)
                         replace HU' := Lib.hid (HU'.out.on hbb)
                         replace HINT := Lib.hid (HINT.out.on hbb)
                         clear hbb HSA)
                      | (go_at_call 10; refine (inter_gen _ _ _ gv _ HG.out (by omega) HGN.out).mono ?_
                         rintro e wc ⟨Ac, nc, cc, rfl, hsc, hbc⟩
                         rw [HIE.out] at hsc
                         have HSC := Lib.hid hsc
                         replace HB := Lib.hid (after HB.out hbc)
                         replace HG := Lib.hid (HG.out.on hbc)
                         replace HT2 := Lib.hid (HT2.out.on hbc)
                         replace HU' := Lib.hid (HU'.out.on hbc)
                         replace HINT := Lib.hid (HINT.out.on hbc)
                         clear hsc hbc)
                      | (go_at_call 8; clear R1; refine (same_i _ _ _ _ _ _ _ _ _ _ HSC.out.2.2.2 HINT.out.2.2.2 HSC.out.n9 HINT.out.n9).mono ?_
                         rintro e wd ⟨rfl, hbd⟩
                         rw [eqB_true rfl]
                         replace HB := Lib.hid (after HB.out hbd)
                         replace HG := Lib.hid (HG.out.on hbd)
                         replace HT2 := Lib.hid (HT2.out.on hbd)
                         replace HU' := Lib.hid (HU'.out.on hbd)
                         clear hbd HSC HINT)
                      | (go_at_call 13; refine (first_any nn _ _ _ gv _ HG.out (by omega) HUN.out).mono ?_
                         rintro e wf ⟨vf, rfl, hmf, hbf⟩
                         rw [HUG.out, ← HMM.out] at hmf
                         obtain ⟨Af, cf, rfl⟩ := hmf.form
                         have HSF := Lib.hid hmf.si
                         replace HB := Lib.hid (after HB.out hbf)
                         replace HT2 := Lib.hid (HT2.out.on hbf)
                         replace HU' := Lib.hid (HU'.out.on hbf)
                         clear hmf hbf)
                      | (go_at_call 8; refine (same_i _ _ _ _ _ _ _ _ _ _ HSF.out.2.2.2 (HU'.out.take HMK.out).2.2.2 HSF.out.n9 (HU'.out.take HMK.out).n9).mono ?_
                         rintro e wg ⟨rfl, hbg⟩
                         rw [eqB_true HTK.out]
                         replace HB := Lib.hid (after HB.out hbg)
                         replace HT2 := Lib.hid (HT2.out.on hbg)
                         clear hbg HSF HU'))
                  go_wp2
                  go_loopw [169] (fun i wr => ∃ q : Nat, i = .int .i64 q ∧ q ≤ j ∧ Hid (Below wg.heap.size wg wr)) (fun i _ => j - (intOf i).toNat)
                  case atStart => exact ⟨0, rfl, Nat.zero_le _, Lib.hid (Below.refl _ _)⟩
                  case round =>
                    rename World => wh
                    obtain ⟨q, rfl, hq, HBH⟩ := hrel
                    have HTH : Hid (T2 own gs wh.drew j _ X2 c1 c2) := Lib.hid (HT2.out.on HBH.out.drew)
                    by_cases hltq : q < j
                    · obtain ⟨adF, hadF, hcF, _⟩ := HTH.out.full.at_ hltq
                      obtain ⟨adO, hadO, hcO, hsO⟩ := HTH.out.own_.at_ hltq
                      subst hadF hadO
                      rw [zip_get fullOf dA (by rw [HT2.out.len]; exact hltq) (by rw [HT2.out.lg]; exact hltq)] at hcF
                      have hen40 : (own.getD q dA).n ≤ 40 := (HT2.out.n40 _ (getA_mem (by rw [HT2.out.len]; exact hltq))).2
                      have HWB := Lib.hid (HTH.out.wb q hltq)
                      generalize own.getD q dA = e at *
                      generalize gs.getD q 0 = g at *
                      obtain ⟨eA, en, ec, el⟩ := e
                      simp only [Ar.v, fullOf] at hcF hcO
                      simp only at hen40 hsO
                      have HSO := Lib.hid hsO
                      clear hsO
                      go_wp2
                      go_region_held3 (fun w' => w'.cell? (adF.add q) = some (.slice (some ⟨g, 0, none⟩) (en + 80) (en + 80)) ∧ w'.cell? (adO.add q) = some (.slice eA en ec)) (first | (go_keep; done) | exact ⟨r1, r2⟩ | exact ⟨hcF, hcO⟩)
                        (first
                          | (go_at_call 17; refine (intact_i eA en ec g el (-5) _ HSO.out.2.2.2 HWB.out.2 HWB.out.1 (by omega)).mono ?_
                             rintro e wi ⟨rfl, hbi⟩
                             have r1 : wi.cell? (adF.add q) = some (.slice (some ⟨g, 0, none⟩) (en + 80) (en + 80)) := (hbi.cell (World.block_lt_of_cell? _ _ hcF)).trans hcF
                             have r2 : wi.cell? (adO.add q) = some (.slice eA en ec) := (hbi.cell (World.block_lt_of_cell? _ _ hcO)).trans hcO
                             have HBI : Hid (Below wg.heap.size wg wi) := Lib.hid (after HBH.out.drew hbi)
                             clear hbi))
                      go_wp2
                      go_roundw
                      case rel => exact ⟨q + 1, by go_num, by omega, HBI⟩
                      case measure => simp only [intOf]; omega
                    · obtain rfl : q = j := by omega
                      replace HB := Lib.hid (after HB.out HBH.out)
                      clear HTH
                      go_wp2_with (first
                        | (go_at_call 12; refine (runs_any _).mono ?_
                           rintro e wz ⟨rfl, hbz⟩
                           replace HB := Lib.hid (after HB.out hbz)
                           clear hbz)
                        | fail)
                      go_ret
                      exact ⟨rfl, HB.out⟩
  · obtain ⟨adA, hA, _⟩ := h.at_ (k := 0) (by omega)
    subst hA
    have hn' : (n : Int) > 8 := by omega
    have h' := h.take (k := 8) (by omega)
    have hc10 : 8 ≤ c := by have := h.1; omega
    have hc11 : (8 : Int) ≤ (c : Int) := by omega
    have hc12 : ¬ (c : Int) < 8 := by omega
    obtain ⟨ls', hls'⟩ : ∃ l, l = ls.take 8 := ⟨_, rfl⟩
    rw [← hls'] at h'
    clear h hls'
    have HLL := Lib.hid h'
    have HLN := Lib.hid h'.len
    clear h'
    go_enter Try.func6, Try.ntmps6
    go_wp2
    go_loopw [5, 6, 7, 31] (fun V1 V2 V3 i wr => ∃ (k : Nat) (own : List Ar) (gs : List Nat) (al : List Int) (X1 X2 X3 : Option Addr) (c1 c2 c3 m3 : Nat), V1 = .slice X1 k c1 ∧ V2 = .slice X2 k c2 ∧ V3 = .slice X3 m3 c3 ∧ i = .int .i64 k ∧ k ≤ 8 ∧ Hid (T1 ls' own gs al w wr k (.slice X1 k c1) (.slice X2 k c2) (.slice X3 m3 c3))) (fun _ _ _ i _ => 8 - (intOf i).toNat)
    case atStart => exact ⟨0, [], [], [], none, none, none, 0, 0, 0, 0, rfl, rfl, rfl, rfl, Nat.zero_le _, Lib.hid (T1.nil ls' w)⟩
    case round =>
      obtain ⟨k, own, gs, al, X1, X2, X3, c1, c2, c3, m3, rfl, rfl, rfl, rfl, hk, HT⟩ := hrel
      by_cases hlt : k < 8
      · have HKL : Hid (k < ls'.length) := Lib.hid (by rw [HLN.out]; exact hlt)
        have HSI0 : Hid (SI w w.heap.size (ls'.getD k dA).A (ls'.getD k dA).n (ls'.getD k dA).c (ls'.getD k dA).l) := Lib.hid (by obtain ⟨_, _, _, h⟩ := HLL.out.at_ hlt; exact h)
        obtain ⟨ad, had, hcell, _⟩ := (HLL.out.below HT.out.below).at_ hlt
        injection had with had
        subst had
        have hm3 : m3 = al.length := by
          have h1 := HT.out.ts.r3
          obtain ⟨_, _, e⟩ := h1.form
          injection e with _ e _
        have hal := HT.out.len3
        have HM3 := Lib.hid hm3.symm
        rw [← hm3] at hal
        have hm39 : m3 ≤ 400 := by omega
        have HR1 : Hid (Mid wr w.heap.size 22 1 (.slice X1 k c1) k (own.map Ar.v)) := Lib.hid (by have := HT.out.ts.r1; rw [List.length_map, HT.out.len] at this; exact this)
        have HR2 : Hid (Mid wr w.heap.size 22 1 (.slice X2 k c2) k ((List.zipWith fullOf own gs).map Ar.v)) := Lib.hid (by have := HT.out.ts.r2; rw [List.length_map, List.length_zipWith, HT.out.len, HT.out.lg, Nat.min_self] at this; exact this)
        have HR3 : Hid (Mid wr w.heap.size 3 1 (.slice X3 m3 c3) m3 (ks .i64 al)) := Lib.hid (by rw [hm3]; have := HT.out.ts.r3; rw [hm3] at this; exact this)
        have hNw : w.heap.size ≤ wr.heap.size := HT.out.below.size
        obtain ⟨e0, he0⟩ : ∃ e0, e0 = ls'.getD k dA := ⟨_, rfl⟩
        rw [← he0] at HSI0 hcell
        obtain ⟨eA, en, ec, el0⟩ := e0
        simp only [Ar.v] at hcell
        have HE0 : Hid ((ls'.getD k dA).l = el0) := Lib.hid (by rw [← he0])
        clear he0 hm3 hal
        by_cases h40 : en ≤ 40
        · have hgt : ¬ (en : Int) > 40 := by omega
          have HSX : Hid (SI w w.heap.size eA en ec el0) := Lib.hid HSI0.out
          have HEL : Hid (el0.length = en) := Lib.hid HSX.out.len
          have hasc : (asc el0).length ≤ 40 := by have := asc_len' el0; have := HEL.out; omega
          have HCUT : Hid (el0 = (ls'.getD k dA).l.take 40) := Lib.hid (by rw [HE0.out, List.take_of_length_le (by rw [HEL.out]; exact h40)])
          generalize el0 = el at *
          clear HSI0 HE0
          go_wp2_with (first
            | (refine wpList_append_mid rfl (.tmp 43) (.tmp 45) 30 rfl w.heap.size 22 i0 _ 1 24 Try.underlying30 hi0 hz0 hz1 hz2 rfl (by omega) (.slice X1 k c1) k _ rfl (HR1.out.alloc_ _) ⟨_, 0, none⟩ 1 1 [.slice eA en ec] rfl rfl (World.news_of_block (cs := #[.slice eA en ec]) (t := 22) (fr := (0, 0)) (heap_alloc_new _ _)) (by simp [Value.oneCell']) (by unfold maxLen; omega) (by omega) (by simp; omega) ?_
               intro v' w3 hmm hran
               obtain ⟨Y1, d1, rfl⟩ := hmm.form
               have HM1 := Lib.hid hmm
               have HN1 := Lib.hid hran.alloc
               have hb3 : Below w.heap.size wr w3 := (Below.refl _ _).grown hran.alloc.grown hNw (fun g hg => (HR1.out.lt g hg).1)
               have HSX3 := Lib.hid ((HSX.out.below (HT.out.below.trans hb3)).more (Nat.le_trans hNw hran.alloc.grown.size))
               have hR2 : Mid w3 w.heap.size 22 1 (.slice X2 k c2) k ((List.zipWith fullOf own gs).map Ar.v) := HR2.out.same fun g hg => HN1.out.grown.block g (HR2.out.lt g hg).2 (fun e => HT.out.ts.s12 g e.symm hg)
               have hR3 : Mid w3 w.heap.size 3 1 (.slice X3 m3 c3) m3 (ks .i64 al) := HR3.out.on_ran HR1.out (by decide) HN1.out
               replace HR2 := Lib.hid hR2
               replace HR3 := Lib.hid hR3
               have hN3 : w.heap.size ≤ w3.heap.size := Nat.le_trans hNw hran.alloc.grown.size
               clear hmm hran hb3 hR2 hR3)
            | (go_at_call 15; refine (roomy_i _ _ _ el (-5) _ HSX3.out.2.2.2 (by omega)).mono ?_
               rintro e w4 ⟨rfl, hq, hb4⟩
               have hsl : sl w3.heap.size (el.length + 80) = .slice (some ⟨w3.heap.size, 0, none⟩) (en + 80) (en + 80) := (by rw [HEL.out]; rfl)
               rw [hsl]
               clear hsl
               have HQ4 := Lib.hid (wb_roomy hq)
               have HB4 := Lib.hid hb4
               have hR2 : Mid w4 w.heap.size 22 1 (.slice X2 k c2) k ((List.zipWith fullOf own gs).map Ar.v) := HR2.out.same fun g hg => hb4.block g (HR2.out.lt g hg).2
               have hR3 : Mid w4 w.heap.size 3 1 (.slice X3 m3 c3) m3 (ks .i64 al) := HR3.out.same fun g hg => hb4.block g (HR3.out.lt g hg).2
               replace HR2 := Lib.hid hR2
               replace HR3 := Lib.hid hR3
               have hN4 : w.heap.size ≤ w4.heap.size := Nat.le_trans hN3 hb4.size
               have HSX4 := Lib.hid (HSX3.out.on hb4)
               clear hq hb4 hR2 hR3 HSX3)
            | (refine wpList_append_mid rfl (.tmp 47) (.tmp 50) 30 rfl w.heap.size 22 i0 _ 1 24 Try.underlying30 hi0 hz0 hz1 hz2 rfl (by omega) (.slice X2 k c2) k _ rfl (HR2.out.alloc_ _) ⟨_, 0, none⟩ 1 1 [.slice (some ⟨w3.heap.size, 0, none⟩) (en + 80) (en + 80)] rfl rfl (World.news_of_block (cs := #[.slice (some ⟨w3.heap.size, 0, none⟩) (en + 80) (en + 80)]) (t := 22) (fr := (0, 0)) (heap_alloc_new _ _)) (by simp [Value.oneCell']) (by unfold maxLen; omega) (by omega) (by simp; omega) ?_
               intro v' w5 hmm hran
               obtain ⟨Y2, d2, rfl⟩ := hmm.form
               have HM2 := Lib.hid hmm
               have HN2 := Lib.hid hran.alloc
               have hb5 : Below w.heap.size w4 w5 := (Below.refl _ _).grown hran.alloc.grown hN4 (fun g hg => (HR2.out.lt g hg).1)
               have hR3 : Mid w5 w.heap.size 3 1 (.slice X3 m3 c3) m3 (ks .i64 al) := HR3.out.on_ran HR2.out (by decide) HN2.out
               replace HR3 := Lib.hid hR3
               have hN5 : w.heap.size ≤ w5.heap.size := Nat.le_trans hN4 hran.alloc.grown.size
               have HSX5 : Hid (SI w5 w5.heap.size eA en ec el) := Lib.hid ((HSX.out.below (((HT.out.below.trans ((Below.refl _ _).grown HN1.out.grown hNw (fun g hg => (HR1.out.lt g hg).1))).trans (HB4.out.mono hN3)).trans hb5)).more hN5)
               clear hmm hran hb5 hR3 HSX4)
            | (go_at_call 9; refine (rising_mid _ _ _ _ _ HSX5.out (by omega)).mono ?_
               rintro e w6 ⟨v6, rfl, hm6, hb6⟩
               obtain ⟨A6, c6, rfl⟩ := hm6.form
               have HM6 := Lib.hid hm6
               have HB6 := Lib.hid hb6
               have hR3 : Mid w6 w.heap.size 3 1 (.slice X3 m3 c3) m3 (ks .i64 al) := HR3.out.same fun g hg => hb6.block g (HR3.out.lt g hg).2
               replace HR3 := Lib.hid hR3
               have hN6 : w.heap.size ≤ w6.heap.size := Nat.le_trans hN5 hb6.size
               clear hm6 hb6 hR3 HSX5)
            | (refine wpList_append_src (by first | rfl | kernel_rfl) (.tmp 52) (.tmp 54) 22 rfl w.heap.size 3 j0 _ 1 8 Try.underlying22 hj0 hy0 hy1 hy2 rfl (by omega) (.slice X3 m3 c3) m3 _ rfl HR3.out _ A6 _ c6 (ks .i64 (asc el)) rfl HM6.out.reads (ks_one .i64 _) (by unfold maxLen; omega) (by omega) hN6 ?_
               intro v7 w7 hm7 hr7
               obtain ⟨Y3, d3, rfl⟩ := hm7.form
               have HF : Hid (T1 ls' (own ++ [⟨eA, en, ec, el⟩]) (gs ++ [w3.heap.size]) (al ++ asc el) w w7 (k + 1) (.slice Y1 (k + 1) d1) (.slice Y2 (k + 1) d2) (.slice Y3 (m3 + (asc el).length) d3)) := Lib.hid (by
                 refine HT.out.next (a := ⟨eA, en, ec, el⟩) HKL.out HCUT.out HSX.out HN1.out HM1.out HB4.out HQ4.out HN2.out HM2.out HB6.out hr7 ?_
                 rw [ks_append, HM3.out]
                 exact hm7)
               have hm9 : (asc el).length ≤ 40 := hasc
               clear hm7 hr7)
            | fail)
          go_roundw
          case rel => exact ⟨k + 1, _, _, _, Y1, Y2, Y3, d1, d2, d3, m3 + (asc el).length, rfl, rfl, rfl, by go_num, by omega, HF⟩
          case measure => simp only [intOf]; omega
        · obtain ⟨adE, rfl, _⟩ := HSI0.out.2.2.2.2 (show 0 < en by omega)
          have hgt : (en : Int) > 40 := by omega
          have HSX0 := HSI0.out.take (k := 40) (by simp only; omega)
          have hec : en ≤ ec := HSI0.out.1
          have hc40 : 40 ≤ ec := by omega
          have hc41 : (40 : Int) ≤ (ec : Int) := by omega
          obtain ⟨el, hel⟩ : ∃ el, el = el0.take 40 := ⟨_, rfl⟩
          have HSX : Hid (SI w w.heap.size (some adE) 40 ec el) := Lib.hid (by rw [hel]; exact HSX0)
          have HEL : Hid (el.length = 40) := Lib.hid HSX.out.len
          have hasc : (asc el).length ≤ 40 := by have := asc_len' el; have := HEL.out; omega
          have HCUT : Hid (el = (ls'.getD k dA).l.take 40) := Lib.hid (by rw [HE0.out, hel])
          clear HSI0 HE0 HSX0 hel hec
          go_wp2_with (first
            | (refine wpList_append_mid rfl (.tmp 43) (.tmp 45) 30 rfl w.heap.size 22 i0 _ 1 24 Try.underlying30 hi0 hz0 hz1 hz2 rfl (by omega) (.slice X1 k c1) k _ rfl (HR1.out.alloc_ _) ⟨_, 0, none⟩ 1 1 [.slice (some adE) 40 ec] rfl rfl (World.news_of_block (cs := #[.slice (some adE) 40 ec]) (t := 22) (fr := (0, 0)) (heap_alloc_new _ _)) (by simp [Value.oneCell']) (by unfold maxLen; omega) (by omega) (by simp; omega) ?_
               intro v' w3 hmm hran
               obtain ⟨Y1, d1, rfl⟩ := hmm.form
               have HM1 := Lib.hid hmm
               have HN1 := Lib.hid hran.alloc
               have hb3 : Below w.heap.size wr w3 := (Below.refl _ _).grown hran.alloc.grown hNw (fun g hg => (HR1.out.lt g hg).1)
               have HSX3 := Lib.hid ((HSX.out.below (HT.out.below.trans hb3)).more (Nat.le_trans hNw hran.alloc.grown.size))
               have hR2 : Mid w3 w.heap.size 22 1 (.slice X2 k c2) k ((List.zipWith fullOf own gs).map Ar.v) := HR2.out.same fun g hg => HN1.out.grown.block g (HR2.out.lt g hg).2 (fun e => HT.out.ts.s12 g e.symm hg)
               have hR3 : Mid w3 w.heap.size 3 1 (.slice X3 m3 c3) m3 (ks .i64 al) := HR3.out.on_ran HR1.out (by decide) HN1.out
               replace HR2 := Lib.hid hR2
               replace HR3 := Lib.hid hR3
               have hN3 : w.heap.size ≤ w3.heap.size := Nat.le_trans hNw hran.alloc.grown.size
               clear hmm hran hb3 hR2 hR3)
            | (go_at_call 15; refine (roomy_i _ _ _ el (-5) _ HSX3.out.2.2.2 (by omega)).mono ?_
               rintro e w4 ⟨rfl, hq, hb4⟩
               have hsl : sl w3.heap.size (el.length + 80) = .slice (some ⟨w3.heap.size, 0, none⟩) (40 + 80) (40 + 80) := (by rw [HEL.out]; rfl)
               rw [hsl]
               clear hsl
               have HQ4 := Lib.hid (wb_roomy hq)
               have HB4 := Lib.hid hb4
               have hR2 : Mid w4 w.heap.size 22 1 (.slice X2 k c2) k ((List.zipWith fullOf own gs).map Ar.v) := HR2.out.same fun g hg => hb4.block g (HR2.out.lt g hg).2
               have hR3 : Mid w4 w.heap.size 3 1 (.slice X3 m3 c3) m3 (ks .i64 al) := HR3.out.same fun g hg => hb4.block g (HR3.out.lt g hg).2
               replace HR2 := Lib.hid hR2
               replace HR3 := Lib.hid hR3
               have hN4 : w.heap.size ≤ w4.heap.size := Nat.le_trans hN3 hb4.size
               have HSX4 := Lib.hid (HSX3.out.on hb4)
               clear hq hb4 hR2 hR3 HSX3)
            | (refine wpList_append_mid rfl (.tmp 47) (.tmp 50) 30 rfl w.heap.size 22 i0 _ 1 24 Try.underlying30 hi0 hz0 hz1 hz2 rfl (by omega) (.slice X2 k c2) k _ rfl (HR2.out.alloc_ _) ⟨_, 0, none⟩ 1 1 [.slice (some ⟨w3.heap.size, 0, none⟩) (40 + 80) (40 + 80)] rfl rfl (World.news_of_block (cs := #[.slice (some ⟨w3.heap.size, 0, none⟩) (40 + 80) (40 + 80)]) (t := 22) (fr := (0, 0)) (heap_alloc_new _ _)) (by simp [Value.oneCell']) (by unfold maxLen; omega) (by omega) (by simp; omega) ?_
               intro v' w5 hmm hran
               obtain ⟨Y2, d2, rfl⟩ := hmm.form
               have HM2 := Lib.hid hmm
               have HN2 := Lib.hid hran.alloc
               have hb5 : Below w.heap.size w4 w5 := (Below.refl _ _).grown hran.alloc.grown hN4 (fun g hg => (HR2.out.lt g hg).1)
               have hR3 : Mid w5 w.heap.size 3 1 (.slice X3 m3 c3) m3 (ks .i64 al) := HR3.out.on_ran HR2.out (by decide) HN2.out
               replace HR3 := Lib.hid hR3
               have hN5 : w.heap.size ≤ w5.heap.size := Nat.le_trans hN4 hran.alloc.grown.size
               have HSX5 : Hid (SI w5 w5.heap.size (some adE) 40 ec el) := Lib.hid ((HSX.out.below (((HT.out.below.trans ((Below.refl _ _).grown HN1.out.grown hNw (fun g hg => (HR1.out.lt g hg).1))).trans (HB4.out.mono hN3)).trans hb5)).more hN5)
               clear hmm hran hb5 hR3 HSX4)
            | (go_at_call 9; refine (rising_mid _ _ _ _ _ HSX5.out (by omega)).mono ?_
               rintro e w6 ⟨v6, rfl, hm6, hb6⟩
               obtain ⟨A6, c6, rfl⟩ := hm6.form
               have HM6 := Lib.hid hm6
               have HB6 := Lib.hid hb6
               have hR3 : Mid w6 w.heap.size 3 1 (.slice X3 m3 c3) m3 (ks .i64 al) := HR3.out.same fun g hg => hb6.block g (HR3.out.lt g hg).2
               replace HR3 := Lib.hid hR3
               have hN6 : w.heap.size ≤ w6.heap.size := Nat.le_trans hN5 hb6.size
               clear hm6 hb6 hR3 HSX5)
            | (refine wpList_append_src (by first | rfl | kernel_rfl) (.tmp 52) (.tmp 54) 22 rfl w.heap.size 3 j0 _ 1 8 Try.underlying22 hj0 hy0 hy1 hy2 rfl (by omega) (.slice X3 m3 c3) m3 _ rfl HR3.out _ A6 _ c6 (ks .i64 (asc el)) rfl HM6.out.reads (ks_one .i64 _) (by unfold maxLen; omega) (by omega) hN6 ?_
               intro v7 w7 hm7 hr7
               obtain ⟨Y3, d3, rfl⟩ := hm7.form
               have HF : Hid (T1 ls' (own ++ [⟨(some adE), 40, ec, el⟩]) (gs ++ [w3.heap.size]) (al ++ asc el) w w7 (k + 1) (.slice Y1 (k + 1) d1) (.slice Y2 (k + 1) d2) (.slice Y3 (m3 + (asc el).length) d3)) := Lib.hid (by
                 refine HT.out.next (a := ⟨(some adE), 40, ec, el⟩) HKL.out HCUT.out HSX.out HN1.out HM1.out HB4.out HQ4.out HN2.out HM2.out HB6.out hr7 ?_
                 rw [ks_append, HM3.out]
                 exact hm7)
               have hm9 : (asc el).length ≤ 40 := hasc
               clear hm7 hr7)
            | fail)
          go_roundw
          case rel => exact ⟨k + 1, _, _, _, Y1, Y2, Y3, d1, d2, d3, m3 + (asc el).length, rfl, rfl, rfl, by go_num, by omega, HF⟩
          case measure => simp only [intOf]; omega
      · rename World => w1
        have hkn : ¬ (k : Int) < (8 : Int) := by omega
        have hk8 : k ≤ 8 := by omega
        have HT2 := Lib.hid HT.out.done
        have hm3 : m3 = al.length := by
          have h1 := HT.out.ts.r3
          obtain ⟨_, _, e⟩ := h1.form
          injection e with _ e _
        have hm39 : m3 ≤ 320 := by have := HT.out.len3; omega
        have HAL : Hid (SI w1 w1.heap.size X3 m3 c3 al) := Lib.hid (by subst hm3; exact HT.out.ts.r3.si)
        have HEA := Lib.hid HT.out.ea
        have HB := Lib.hid HT.out.below
        clear HT hm3 hk hlt
        obtain ⟨gv, hgv⟩ : ∃ gv, gv = List.zipWith givenOf own gs := ⟨_, rfl⟩
        have HGV := Lib.hid hgv
        have HGL : Hid (gv.length = k) := Lib.hid (by rw [hgv]; exact given_len HT2.out.len HT2.out.lg)
        have HGLL : Hid (gv.map Ar.l = own.map Ar.l) := Lib.hid (by rw [hgv]; exact given_l (HT2.out.len.trans HT2.out.lg.symm))
        clear hgv
        go_wp2
        go_loopw [10, 59] (fun V i w2 => ∃ (j : Nat) (X4 : Option Addr) (c4 : Nat), V = .slice X4 j c4 ∧ i = .int .i64 j ∧ j ≤ k ∧ Hid (T3 own gs w1.heap.size w1 w2 j (.slice X4 j c4))) (fun _ i _ => k - (intOf i).toNat)
        case atStart => exact ⟨0, none, 0, rfl, rfl, Nat.zero_le _, Lib.hid ⟨Mid.nil _ _ _ _, Below.refl _ _, Nat.le_refl _⟩⟩
        case round =>
          rename World => w2
          obtain ⟨j, X4, c4, rfl, rfl, hj, H3⟩ := hrel
          by_cases hltj : j < k
          · obtain ⟨adF, hadF, hcF, _⟩ := (HT2.out.full.below H3.out.below).at_ hltj
            obtain ⟨adO, hadO, hcO, _⟩ := (HT2.out.own_.below H3.out.below).at_ hltj
            subst hadF hadO
            rw [zip_get fullOf dA (by rw [HT2.out.len]; exact hltj) (by rw [HT2.out.lg]; exact hltj)] at hcF
            have HGN : Hid (gv.take (j + 1) = gv.take j ++ [givenOf (own.getD j dA) (gs.getD j 0)]) := Lib.hid (by
              have e := zip_get givenOf dA (own := own) (gs := gs) (i := j) (by rw [HT2.out.len]; exact hltj) (by rw [HT2.out.lg]; exact hltj)
              rw [List.take_succ_eq_append_getElem (by rw [HGL.out]; exact hltj), ← e, ← HGV.out, List.getD_eq_getElem?_getD, List.getElem?_eq_getElem (by rw [HGL.out]; exact hltj)]; rfl)
            have hen40 : (own.getD j dA).n ≤ 40 := (HT2.out.n40 _ (getA_mem (by rw [HT2.out.len]; exact hltj))).2
            have HFB : Hid ((adF.add j).block < w1.heap.size ∧ (adO.add j).block < w1.heap.size) := Lib.hid (by
              obtain ⟨a1, e1, hc1, _⟩ := HT2.out.full.at_ hltj
              obtain ⟨a2, e2, hc2, _⟩ := HT2.out.own_.at_ hltj
              injection e1 with e1
              injection e2 with e2
              rw [e1, e2]
              exact ⟨World.block_lt_of_cell? _ _ hc1, World.block_lt_of_cell? _ _ hc2⟩)
            generalize own.getD j dA = e at *
            generalize gs.getD j 0 = g at *
            obtain ⟨eA, en, ec, el⟩ := e
            simp only [Ar.v, fullOf] at hcF hcO
            simp only at hen40
            have hs1 : w2.drew.cell? (adF.add j) = some (.slice (some ⟨g, 0, none⟩) (en + 80) (en + 80)) := hcF
            have hs2 : w2.drew.cell? (adO.add j) = some (.slice eA en ec) := hcO
            have HR4 : Hid (Mid w2.drew w1.heap.size 22 1 (.slice X4 j c4) j ((gv.take j).map Ar.v)) := Lib.hid (by rw [HGV.out]; exact H3.out.row.same fun _ _ => rfl)
            have hN2 : w1.heap.size ≤ w2.drew.heap.size := H3.out.le
            have hN2' : w1.heap.size ≤ w2.heap.size := H3.out.le
            have HB2 : Hid (Below w1.heap.size w1 w2.drew) := Lib.hid H3.out.below.drew
            have hle1 : (en : Int) ≤ ((en + 80 : Nat) : Int) := by omega
            have hle2 : (en : Int) ≤ (en : Int) + 80 := by omega
            have hk1 : ∀ o, (w2.alloc o).drew.cell? (adF.add j) = some (.slice (some ⟨g, 0, none⟩) (en + 80) (en + 80)) := fun o => (World.cell?_alloc_lt w2 o _ (Nat.lt_of_lt_of_le HFB.out.1 hN2')).trans hs1
            have hk2 : ∀ o, (w2.alloc o).drew.cell? (adO.add j) = some (.slice eA en ec) := fun o => (World.cell?_alloc_lt w2 o _ (Nat.lt_of_lt_of_le HFB.out.2 hN2')).trans hs2
            clear hcF hcO H3
            go_wp2
            go_region_held3 (fun w' => w'.cell? (adF.add j) = some (.slice (some ⟨g, 0, none⟩) (en + 80) (en + 80)) ∧ w'.cell? (adO.add j) = some (.slice eA en ec)) (first | (go_keep; done) | exact ⟨r1, r2⟩ | exact ⟨hk1 _, hk2 _⟩)
              (first
                | (refine step_append_mid (by rfl) _ _ _ (by rfl) w1.heap.size 22 i0 _ 1 24 Try.underlying30 hi0 hz0 hz1 hz2 rfl (by omega) (.slice X4 j c4) j ((gv.take j).map Ar.v) (by rfl) (HR4.out.alloc_ _) ⟨w2.drew.heap.size, 0, none⟩ 1 1 [.slice (some ⟨g, 0, none⟩) en (en + 80)] (by rfl) rfl (World.news_of_block (cs := #[.slice (some ⟨g, 0, none⟩) en (en + 80)]) (t := 22) (fr := (0, 0)) (heap_alloc_new _ _)) (by simp [Value.oneCell']) (by unfold maxLen; omega) (by omega) (by simp; omega) ?_
                   intro v' w3 hmm hran
                   obtain ⟨Y4, d4, rfl⟩ := hmm.form
                   have hbl : Below w1.heap.size w2.drew w3 := (Below.refl _ _).grown hran.alloc.grown hN2 (fun g hg => (HR4.out.lt g hg).1)
                   have r1 : w3.cell? (adF.add j) = some (.slice (some ⟨g, 0, none⟩) (en + 80) (en + 80)) := (hbl.cell HFB.out.1).trans hs1
                   have r2 : w3.cell? (adO.add j) = some (.slice eA en ec) := (hbl.cell HFB.out.2).trans hs2
                   have HF : Hid (T3 own gs w1.heap.size w1 w3 (j + 1) (.slice Y4 (j + 1) d4)) := Lib.hid (by
                     refine ⟨?_, HB2.out.trans hbl, Nat.le_trans hN2 hbl.size⟩
                     rw [← HGV.out, HGN.out, List.map_append]
                     exact hmm)
                   clear hmm hran hbl))
            go_wp2
            go_roundw
            case rel => exact ⟨j + 1, Y4, d4, rfl, by go_num, by omega, HF⟩
            case measure => simp only [intOf]; omega
          · obtain rfl : j = k := by omega
            replace HB := Lib.hid (after HB.out H3.out.below)
            replace HAL := Lib.hid (HAL.out.on H3.out.below)
            have HG : Hid (LL w2 w2.heap.size X4 j c4 gv) := Lib.hid (by
              have h1 := H3.out.row
              rw [← HGV.out, List.take_of_length_le (by rw [HGL.out]; exact Nat.le_refl _)] at h1
              refine row_ll h1 (fun e he => ?_)
              rw [HGV.out] at he
              exact (HT2.out.given e he).on H3.out.below)
            replace HT2 := Lib.hid (HT2.out.on H3.out.below)
            obtain ⟨U, hU⟩ : ∃ U, U = uni (own.map Ar.l) := ⟨_, rfl⟩
            have HUE := Lib.hid hU
            have HSET : Hid (foldI [] al = U) := Lib.hid (by rw [hU, HEA.out]; rfl)
            have HU4 : Hid (U.length ≤ m3) := Lib.hid (by
              have h1 := foldI_len al []
              rw [HSET.out] at h1
              have h2 := HAL.out.len
              rw [List.length_nil] at h1; omega)
            clear hU H3 hj hltj HEA
            go_wp2_with (first
              | (go_at_call 16; refine (set_any _ _ _ _ _ HAL.out (by omega)).mono ?_
                 rintro e w3 ⟨v3, rfl, hm3', hb3⟩
                 rw [HSET.out] at hm3'
                 obtain ⟨AU, cU, rfl⟩ := hm3'.form
                 have HU := Lib.hid hm3'.si
                 replace HB := Lib.hid (after HB.out hb3)
                 replace HG := Lib.hid (HG.out.on hb3)
                 replace HT2 := Lib.hid (HT2.out.on hb3)
                 have hU9 := HU4.out
                 clear hm3' hb3 HAL HSET)
              | fail)
            obtain ⟨nU, hnU⟩ : ∃ nU, nU = U.length := ⟨_, rfl⟩
            have HNU := Lib.hid hnU.symm
            rw [← hnU] at hU9
            rw [← hnU]
            have HU' : Hid (SI w3 w3.heap.size AU nU cU U) := Lib.hid (by rw [hnU]; exact HU.out)
            clear hnU HU
            have HI0 := Lib.hid (T4.nil w3)
            go_loopw [13, 80] (fun V i wq => ∃ (q m cI : Nat) (AI : Option Addr), V = .slice AI m cI ∧ i = .int .i64 q ∧ q ≤ nU ∧ m ≤ q ∧ Hid (m = ((U.take q).filter (inB own)).length ∧ T4 ((U.take q).filter (inB own)) w3.heap.size w3 wq (.slice AI m cI))) (fun _ i _ => nU - (intOf i).toNat)
            case atStart => exact ⟨0, 0, 0, none, rfl, rfl, Nat.zero_le _, Nat.le_refl _, Lib.hid ⟨rfl, HI0.out⟩⟩
            case round =>
              rename World => wq
              clear HI0
              obtain ⟨q, m, cI, AI, rfl, rfl, hq, hm, HI⟩ := hrel
              by_cases hltq : q < nU
              · have hqU : q < U.length := by rw [HNU.out]; exact hltq
                obtain ⟨adU, hadU, hx1⟩ := (HU'.out.on HI.out.2.below).2.2.2.kat hltq
                subst hadU
                have HFN := Lib.hid (filter_snoc (p := inB own) hqU)
                have HT3 := Lib.hid (HT2.out.on HI.out.2.below)
                obtain ⟨x, hx⟩ : ∃ x, x = U.getD q 0 := ⟨_, rfl⟩
                rw [← hx] at hx1 HFN
                clear hx hqU
                go_wp2
                go_loopw [17, 86] (fun mv i wr2 => ∃ j' : Nat, mv = .int .i64 (cnt (own.take j') x) ∧ i = .int .i64 j' ∧ j' ≤ j ∧ Hid (Below wq.heap.size wq wr2)) (fun _ i _ => j - (intOf i).toNat)
                case atStart => exact ⟨0, rfl, rfl, Nat.zero_le _, Lib.hid (Below.refl _ _)⟩
                case round =>
                  rename World => wr2
                  obtain ⟨j', rfl, rfl, hj', HBR⟩ := hrel
                  by_cases hltj : j' < j
                  · have HT4 := Lib.hid (HT3.out.on HBR.out)
                    obtain ⟨adO, hadO, hcO, hsO⟩ := HT4.out.own_.at_ hltj
                    subst hadO
                    have hjo : j' < own.length := by rw [HT2.out.len]; exact hltj
                    have HCN := Lib.hid (cnt_next hjo x)
                    have hc8 : cnt (own.take j') x ≤ 8 := by have := cnt_le (own.take j') x; rw [List.length_take] at this; omega
                    have hen40 : (own.getD j' dA).n ≤ 40 := (HT2.out.n40 _ (getA_mem hjo)).2
                    generalize own.getD j' dA = e at *
                    obtain ⟨eA, en, ec, el⟩ := e
                    simp only [Ar.v] at hcO
                    simp only at hsO hen40
                    have HSO := Lib.hid hsO
                    obtain ⟨cn, hcn⟩ : ∃ cn, cn = cnt (own.take j') x := ⟨_, rfl⟩
                    rw [← hcn] at HCN hc8 ⊢
                    clear hsO hjo hcn
                    by_cases hin : x ∈ asc el
                    · have HD : Hid (decide (x ∈ asc el) = true) := Lib.hid (decide_eq_true hin)
                      have HC1 : Hid (cnt (own.take (j' + 1)) x = cn + 1) := Lib.hid (by rw [HCN.out, if_pos HD.out])
                      clear hin
                      go_wp2_with (first
                        | (go_at_call 9; refine (rising_any _ _ _ _ _ HSO.out (by omega)).mono ?_
                           rintro e wa ⟨Aa, na, ca, rfl, hsa, hba⟩
                           have HSA := Lib.hid hsa
                           replace HBR := Lib.hid (after HBR.out hba)
                           clear hsa hba)
                        | (go_at_call 14; refine (has_any _ _ _ _ (asc el) x _ HSA.out).mono ?_
                           rintro e w' ⟨rfl, hw'⟩
                           rw [hw', HD.out]
                           clear hw')
                        | fail)
                      go_roundw
                      case rel => exact ⟨j' + 1, by rw [HC1.out]; go_num, by go_num, by omega, HBR⟩
                      case measure => simp only [intOf]; omega
                    · have HD : Hid (decide (x ∈ asc el) = false) := Lib.hid (decide_eq_false hin)
                      have HC1 : Hid (cnt (own.take (j' + 1)) x = cn) := Lib.hid (by rw [HCN.out, HD.out]; rfl)
                      clear hin
                      go_wp2_with (first
                        | (go_at_call 9; refine (rising_any _ _ _ _ _ HSO.out (by omega)).mono ?_
                           rintro e wa ⟨Aa, na, ca, rfl, hsa, hba⟩
                           have HSA := Lib.hid hsa
                           replace HBR := Lib.hid (after HBR.out hba)
                           clear hsa hba)
                        | (go_at_call 14; refine (has_any _ _ _ _ (asc el) x _ HSA.out).mono ?_
                           rintro e w' ⟨rfl, hw'⟩
                           rw [hw', HD.out]
                           clear hw')
                        | fail)
                      go_roundw
                      case rel => exact ⟨j' + 1, by rw [HC1.out], by go_num, by omega, HBR⟩
                      case measure => simp only [intOf]; omega
                  · obtain rfl : j' = j := by omega
                    have hT : own.take j' = own := List.take_of_length_le (by rw [HT2.out.len]; exact Nat.le_refl _)
                    rw [hT]
                    obtain ⟨cn, hcn⟩ : ∃ cn, cn = cnt own x := ⟨_, rfl⟩
                    have HIB : Hid (inB own x = decide (cn = j')) := Lib.hid (by unfold inB; rw [hcn, HT2.out.len])
                    rw [← hcn]
                    have HI2 := Lib.hid (HI.out.2.on HBR.out)
                    have HROW : Hid (Mid wr2 w3.heap.size 3 1 (.slice AI m cI) m (ks .i64 ((U.take q).filter (inB own)))) := Lib.hid (by have h1 := HI2.out.row; rw [← HI.out.1] at h1; exact h1)
                    have hw3 : w3.heap.size ≤ wr2.heap.size := HI2.out.le
                    clear hT hcn
                    by_cases hcj : cn = j'
                    · have hcj' : (cn : Int) = (j' : Int) := by omega
                      have HFX : Hid ((U.take (q + 1)).filter (inB own) = (U.take q).filter (inB own) ++ [x]) := Lib.hid (by rw [HFN.out, HIB.out, decide_eq_true hcj]; rfl)
                      clear hcj
                      go_wp2_with (first
                        | (refine wpList_append_mid rfl (.tmp 101) (.tmp 103) 22 rfl w3.heap.size 3 j0 _ 1 8 Try.underlying22 hj0 hy0 hy1 hy2 rfl (by omega) (.slice AI m cI) m _ rfl (HROW.out.alloc_ _) ⟨_, 0, none⟩ 1 1 [.int .i64 x] rfl rfl (World.news_of_block (cs := #[.int .i64 x]) (t := 3) (fr := (0, 0)) (heap_alloc_new _ _)) (by simp [Value.oneCell']) (by unfold maxLen; omega) (by omega) (by simp; omega) ?_
                           intro v' w9 hmm hran
                           obtain ⟨Y9, d9, rfl⟩ := hmm.form
                           have HF : Hid (m + 1 = ((U.take (q + 1)).filter (inB own)).length ∧ T4 ((U.take (q + 1)).filter (inB own)) w3.heap.size w3 w9 (.slice Y9 (m + 1) d9)) := Lib.hid (by
                             rw [HFX.out]
                             exact ⟨by rw [List.length_append, ← HI.out.1]; rfl, HI2.out.snoc HI.out.1 hran.alloc hmm⟩)
                           clear hmm hran)
                        | fail)
                      go_roundw
                      case rel => exact ⟨q + 1, m + 1, d9, Y9, rfl, by go_num, by omega, by omega, HF⟩
                      case measure => simp only [intOf]; omega
                    · have hcj' : ¬ (cn : Int) = (j' : Int) := by omega
                      have HF : Hid (m = ((U.take (q + 1)).filter (inB own)).length ∧ T4 ((U.take (q + 1)).filter (inB own)) w3.heap.size w3 wr2 (.slice AI m cI)) := Lib.hid (by
                        rw [HFN.out, HIB.out, decide_eq_false hcj, if_neg (by simp), List.append_nil]
                        exact ⟨HI.out.1, HI2.out⟩)
                      clear hcj
                      go_wp2
                      go_roundw
                      case rel => exact ⟨q + 1, m, cI, AI, rfl, by go_num, by omega, by omega, HF⟩
                      case measure => simp only [intOf]; omega
              · obtain rfl : nU = q := by omega
                have HINT : Hid (SI wq wq.heap.size AI m cI (U.filter (inB own))) := Lib.hid (by
                  have h1 := HI.out.2
                  have h2 := HI.out.1
                  rw [List.take_of_length_le (by rw [HNU.out]; exact Nat.le_refl _)] at h1 h2
                  exact h1.si h2)
                replace HB := Lib.hid (after HB.out HI.out.2.below)
                replace HG := Lib.hid (HG.out.on HI.out.2.below)
                replace HT2 := Lib.hid (HT2.out.on HI.out.2.below)
                replace HU' := Lib.hid (HU'.out.on HI.out.2.below)
                clear HI hq hltq
                by_cases h2 : 2 ≤ j
                · have h2' : (j : Int) ≥ 2 := by omega
                  have h1j : (1 : Int) < (j : Int) := by omega
                  have h0j : (0 : Int) < (j : Int) := by omega
                  have HO2 : Hid (2 ≤ own.length) := Lib.hid (by rw [HT2.out.len]; exact h2)
                  obtain ⟨adO, hadO, hc0, hs0⟩ := HT2.out.own_.at_ (k := 0) (by omega)
                  subst hadO
                  have h0n : (own.getD 0 dA).n ≤ 40 := (HT2.out.n40 _ (getA_mem (by have := HO2.out; omega))).2
                  have h1n : (own.getD 1 dA).n ≤ 40 := (HT2.out.n40 _ (getA_mem (by have := HO2.out; omega))).2
                  obtain ⟨e0, he0⟩ : ∃ e0, e0 = own.getD 0 dA := ⟨_, rfl⟩
                  obtain ⟨e1, he1⟩ : ∃ e1, e1 = own.getD 1 dA := ⟨_, rfl⟩
                  rw [← he0] at hc0 hs0 h0n
                  rw [← he1] at h1n
                  have HE0 := Lib.hid he0
                  have HE1 := Lib.hid he1
                  clear he0 he1
                  obtain ⟨aA, an, ac, al0⟩ := e0
                  obtain ⟨bA, bn, bc, bl⟩ := e1
                  simp only [Ar.v] at hc0
                  have hc00 : wq.cell? adO = some (.slice aA an ac) := by have := hc0; unfold Addr.add at this; simpa using this
                  simp only at hs0 h0n h1n
                  have HS0 := Lib.hid hs0
                  have hlr : (asc al0).length ≤ 40 := by have := asc_len' al0; have := hs0.len; omega
                  clear hs0
                  go_wp2_with (first
                    | (go_at_call 9; refine (rising_any _ _ _ _ _ HS0.out (by omega)).mono ?_
                       rintro e w4 ⟨A4, n4, c5, rfl, hs4, hb4⟩
                       have hn4 : n4 ≤ 40 := (by have := hs4.len; omega)
                       have HS4 := Lib.hid hs4
                       replace HB := Lib.hid (after HB.out hb4)
                       replace HG := Lib.hid (HG.out.on hb4)
                       replace HT2 := Lib.hid (HT2.out.on hb4)
                       replace HU' := Lib.hid (HU'.out.on hb4)
                       replace HINT := Lib.hid (HINT.out.on hb4)
                       replace HS0 := Lib.hid (HS0.out.on hb4)
                       clear hs4 hb4 hc0 hc00)
                    | fail)
                  have HM0 := Lib.hid (T4.nil w4)
                  have HLR : Hid ((asc al0).length = n4) := Lib.hid HS4.out.len
                  go_loopw [14, 114] (fun V i wr => ∃ (q m cM : Nat) (AM : Option Addr), V = .slice AM m cM ∧ i = .int .i64 q ∧ q ≤ n4 ∧ m ≤ q ∧ Hid (m = (((asc al0).take q).filter fun y => decide (y ∈ asc bl) == false).length ∧ T4 (((asc al0).take q).filter fun y => decide (y ∈ asc bl) == false) w4.heap.size w4 wr (.slice AM m cM))) (fun _ i _ => n4 - (intOf i).toNat)
                  case atStart => exact ⟨0, 0, 0, none, rfl, rfl, Nat.zero_le _, Nat.le_refl _, Lib.hid ⟨rfl, HM0.out⟩⟩
                  case round =>
                    rename World => w5
                    clear HM0
                    obtain ⟨q, m5, cM, AM, rfl, rfl, hq, hm5, HI⟩ := hrel
                    by_cases hltq : q < n4
                    · have hqU : q < (asc al0).length := by rw [HLR.out]; exact hltq
                      obtain ⟨adR, hadR, hx1⟩ := (HS4.out.on HI.out.2.below).2.2.2.kat hltq
                      subst hadR
                      have HFN := Lib.hid (filter_snoc (p := fun y => decide (y ∈ asc bl) == false) hqU)
                      have HT5 := Lib.hid (HT2.out.on HI.out.2.below)
                      obtain ⟨x, hx⟩ : ∃ x, x = (asc al0).getD q 0 := ⟨_, rfl⟩
                      rw [← hx] at hx1 HFN
                      clear hx hqU
                      obtain ⟨ad1, had1, hc1, hs1⟩ := HT5.out.own_.at_ (k := 1) (by omega)
                      injection had1 with had1
                      rw [← had1, ← HE1.out, add1_eq] at hc1
                      rw [← HE1.out] at hs1
                      simp only [Ar.v] at hc1
                      simp only at hs1
                      have HS1 := Lib.hid hs1
                      have HI2 := Lib.hid HI.out.2
                      have HW4 : Hid (w4.heap.size ≤ w5.heap.size) := Lib.hid HI.out.2.le
                      clear hs1 had1
                      by_cases hin : x ∈ asc bl
                      · have HD : Hid (decide (x ∈ asc bl) = true) := Lib.hid (decide_eq_true hin)
                        have HFX : Hid (((asc al0).take (q + 1)).filter (fun y => decide (y ∈ asc bl) == false) = ((asc al0).take q).filter fun y => decide (y ∈ asc bl) == false) := Lib.hid (by rw [HFN.out, HD.out]; simp)
                        clear hin
                        go_wp2_with (first
                          | (go_at_call 9; refine (rising_any _ _ _ _ _ HS1.out (by omega)).mono ?_
                             rintro e wa ⟨Aa, na, ca, rfl, hsa, hba⟩
                             have HSA := Lib.hid hsa
                             replace HI2 := Lib.hid (HI2.out.on hba)
                             clear hsa hba)
                          | (go_at_call 14; refine (has_any _ _ _ _ (asc bl) x _ HSA.out).mono ?_
                             rintro e w' ⟨rfl, hw'⟩
                             rw [hw', HD.out]
                             clear hw')
                          | fail)
                        go_roundw
                        case rel => exact ⟨q + 1, m5, cM, AM, rfl, by go_num, by omega, by omega, Lib.hid (by rw [HFX.out]; exact ⟨HI.out.1, HI2.out⟩)⟩
                        case measure => simp only [intOf]; omega
                      · have HD : Hid (decide (x ∈ asc bl) = false) := Lib.hid (decide_eq_false hin)
                        have HFX : Hid (((asc al0).take (q + 1)).filter (fun y => decide (y ∈ asc bl) == false) = (((asc al0).take q).filter fun y => decide (y ∈ asc bl) == false) ++ [x]) := Lib.hid (by rw [HFN.out, HD.out]; simp)
                        clear hin
                        go_wp2_with (first
                          | (go_at_call 9; refine (rising_any _ _ _ _ _ HS1.out (by omega)).mono ?_
                             rintro e wa ⟨Aa, na, ca, rfl, hsa, hba⟩
                             have HSA := Lib.hid hsa
                             replace HI2 := Lib.hid (HI2.out.on hba)
                             replace HW4 : Hid (w4.heap.size ≤ wa.heap.size) := Lib.hid (Nat.le_trans HW4.out hba.size)
                             have HROW : Hid (Mid wa w4.heap.size 3 1 (.slice AM m5 cM) m5 (ks .i64 (((asc al0).take q).filter fun y => decide (y ∈ asc bl) == false))) := Lib.hid (by have h1 := HI2.out.row; rw [← HI.out.1] at h1; exact h1)
                             have hw4a : w4.heap.size ≤ wa.heap.size := HW4.out
                             clear hsa hba)
                          | (go_at_call 14; refine (has_any _ _ _ _ (asc bl) x _ HSA.out).mono ?_
                             rintro e w' ⟨rfl, hw'⟩
                             rw [hw', HD.out]
                             clear hw')
                          | (refine wpList_append_mid rfl (.tmp 125) (.tmp 127) 22 rfl w4.heap.size 3 j0 _ 1 8 Try.underlying22 hj0 hy0 hy1 hy2 rfl (by omega) (.slice AM m5 cM) m5 _ rfl (HROW.out.alloc_ _) ⟨_, 0, none⟩ 1 1 [.int .i64 x] rfl rfl (World.news_of_block (cs := #[.int .i64 x]) (t := 3) (fr := (0, 0)) (heap_alloc_new _ _)) (by simp [Value.oneCell']) (by unfold maxLen; omega) (by omega) (by simp; omega) ?_
                             intro v' w9 hmm hran
                             obtain ⟨Y9, d9, rfl⟩ := hmm.form
                             have HF : Hid (m5 + 1 = (((asc al0).take (q + 1)).filter fun y => decide (y ∈ asc bl) == false).length ∧ T4 (((asc al0).take (q + 1)).filter fun y => decide (y ∈ asc bl) == false) w4.heap.size w4 w9 (.slice Y9 (m5 + 1) d9)) := Lib.hid (by
                               rw [HFX.out]
                               exact ⟨by rw [List.length_append, ← HI.out.1]; rfl, HI2.out.snoc HI.out.1 hran.alloc hmm⟩)
                             clear hmm hran)
                          | fail)
                        go_roundw
                        case rel => exact ⟨q + 1, m5 + 1, d9, Y9, rfl, by go_num, by omega, by omega, HF⟩
                        case measure => simp only [intOf]; omega
                    · obtain rfl : q = n4 := by omega
                      have HMIN : Hid (SI w5 w5.heap.size AM m5 cM (flt bl false (asc al0))) := Lib.hid (by
                        have h1 := HI.out.2
                        have h2 := HI.out.1
                        rw [List.take_of_length_le (by rw [HLR.out]; exact Nat.le_refl _)] at h1 h2
                        exact h1.si h2)
                      replace HB := Lib.hid (after HB.out HI.out.2.below)
                      replace HG := Lib.hid (HG.out.on HI.out.2.below)
                      replace HT2 := Lib.hid (HT2.out.on HI.out.2.below)
                      replace HU' := Lib.hid (HU'.out.on HI.out.2.below)
                      replace HINT := Lib.hid (HINT.out.on HI.out.2.below)
                      clear HI hq hltq HS4 HS0
                      go_wp2
                      replace HB := Lib.hid (HB.out.drew)
                      replace HG : Hid (LL w5.drew w5.drew.heap.size _ j c4 gv) := Lib.hid (HG.out.on ((Below.refl _ _).drew))
                      replace HT2 : Hid (T2 own gs w5.drew j _ X2 c1 c2) := Lib.hid (HT2.out.on ((Below.refl _ _).drew))
                      replace HU' : Hid (SI w5.drew w5.drew.heap.size AU nU cU U) := Lib.hid (HU'.out.on ((Below.refl _ _).drew))
                      replace HINT : Hid (SI w5.drew w5.drew.heap.size AI m cI (U.filter (inB own))) := Lib.hid (HINT.out.on ((Below.refl _ _).drew))
                      replace HMIN : Hid (SI w5.drew w5.drew.heap.size AM m5 cM (flt bl false (asc al0))) := Lib.hid (HMIN.out.on ((Below.refl _ _).drew))
                      obtain ⟨adG, hadG, hg0, hgs0⟩ := HG.out.at_ (k := 0) (by omega)
                      obtain ⟨adG', hadG', hg1, hgs1⟩ := HG.out.at_ (k := 1) (by omega)
                      rw [hadG] at hadG'
                      injection hadG' with hadG'
                      subst hadG hadG'
                      rw [HGV.out] at hg0 hgs0 hg1 hgs1
                      rw [zip_get givenOf dA (by have := HO2.out; omega) (by rw [HT2.out.lg]; omega), ← HE0.out] at hg0 hgs0
                      rw [zip_get givenOf dA (by have := HO2.out; omega) (by rw [HT2.out.lg]; omega), ← HE1.out] at hg1 hgs1
                      generalize gs.getD 0 0 = g0 at *
                      generalize gs.getD 1 0 = g1 at *
                      simp only [Ar.v, givenOf] at hg0 hg1
                      simp only [givenOf] at hgs0 hgs1
                      have hg00 : w5.drew.cell? adG = some (.slice (some ⟨g0, 0, none⟩) an (an + 80)) := by have := hg0; unfold Addr.add at this; simpa using this
                      rw [add1_eq] at hg1
                      have HGS0 := Lib.hid hgs0
                      have HGS1 := Lib.hid hgs1
                      clear hgs0 hgs1 hg0
                      have hj0 : (0 < j) = True := by simp; omega
                      go_region_held3 (fun w' => w'.cell? adG = some (.slice (some ⟨g0, 0, none⟩) an (an + 80)) ∧ w'.cell? ⟨adG.block, adG.off + 1, none⟩ = some (.slice (some ⟨g1, 0, none⟩) bn (bn + 80))) (first | (go_keep; done) | exact ⟨s1, s2⟩ | exact ⟨r1, r2⟩ | exact ⟨hg00, hg1⟩)
                        (first
                          | (go_at_call 11; refine (minus_any _ _ _ _ _ _ _ _ _ HGS0.out HGS1.out (by omega) (by omega)).mono ?_
                             rintro e w6 ⟨A6, n6, c6, rfl, hs6, hb6⟩
                             have r1 : w6.cell? adG = some (.slice (some ⟨g0, 0, none⟩) an (an + 80)) := (hb6.cell (World.block_lt_of_cell? _ _ hg00)).trans hg00
                             have r2 : w6.cell? ⟨adG.block, adG.off + 1, none⟩ = some (.slice (some ⟨g1, 0, none⟩) bn (bn + 80)) := (hb6.cell (World.block_lt_of_cell? _ _ hg1)).trans hg1
                             have HS6 := Lib.hid hs6
                             replace HB := Lib.hid (after HB.out hb6)
                             replace HG := Lib.hid (HG.out.on hb6)
                             replace HT2 := Lib.hid (HT2.out.on hb6)
                             replace HU' := Lib.hid (HU'.out.on hb6)
                             replace HINT := Lib.hid (HINT.out.on hb6)
                             replace HMIN := Lib.hid (HMIN.out.on hb6)
                             clear hs6 hb6)
                          | (go_at_call 8; refine (same_i _ _ _ _ _ _ _ _ _ _ HS6.out.2.2.2 HMIN.out.2.2.2 HS6.out.n9 HMIN.out.n9).mono ?_
                             rintro e w7 ⟨rfl, hb7⟩
                             rw [eqB_true rfl]
                             have s1 : w7.cell? adG = some (.slice (some ⟨g0, 0, none⟩) an (an + 80)) := (hb7.cell (World.block_lt_of_cell? _ _ r1)).trans r1
                             have s2 : w7.cell? ⟨adG.block, adG.off + 1, none⟩ = some (.slice (some ⟨g1, 0, none⟩) bn (bn + 80)) := (hb7.cell (World.block_lt_of_cell? _ _ r2)).trans r2
                             replace HB := Lib.hid (after HB.out hb7)
                             replace HG := Lib.hid (HG.out.on hb7)
                             replace HT2 := Lib.hid (HT2.out.on hb7)
                             replace HU' := Lib.hid (HU'.out.on hb7)
                             replace HINT := Lib.hid (HINT.out.on hb7)
                             clear hb7 HS6 HMIN))
                      clear hg00 hg1 HGS0 HGS1
                      have hmax : (if nn < 0 then (0 : Int) else nn) = ((nn.toNat : Nat) : Int) := by split <;> omega
                      obtain ⟨M, hM⟩ : ∃ M, M = nn.toNat := ⟨_, rfl⟩
                      obtain ⟨mk, hmk⟩ : ∃ mk, mk = min M nU := ⟨_, rfl⟩
                      have hmin : (if nU < M then (nU : Int) else (M : Int)) = (mk : Int) := by split <;> omega
                      rw [← hM] at hmax
                      have HMK : Hid (mk ≤ nU) := Lib.hid (by omega)
                      have HTK : Hid (U.take nn.toNat = U.take mk) := Lib.hid (by
                        rw [hmk, ← hM]
                        have := HNU.out
                        rcases Nat.le_total M nU with h1 | h1
                        · rw [Nat.min_eq_left h1]
                        · rw [Nat.min_eq_right h1, List.take_of_length_le (by omega), List.take_of_length_le (by omega)])
                      have hmk1 : mk ≤ cU := by have := HU'.out.1; omega
                      have HMM : Hid (mk = (U.take nn.toNat).length) := Lib.hid (by rw [hmk, hM, List.length_take, HNU.out])
                      have hmk2 : (mk : Int) ≤ (cU : Int) := by omega
                      clear hM hmk
                      go_wp2
                      have HUN : Hid ((uni (gv.map Ar.l)).length ≤ 100000) := Lib.hid (by rw [HGLL.out, ← HUE.out, HNU.out]; omega)
                      have HIE : Hid (interL (gv.map Ar.l) = U.filter (inB own)) := Lib.hid (by rw [HGLL.out, HUE.out]; exact inter_eq' own)
                      have HUG : Hid (uni (gv.map Ar.l) = U) := Lib.hid (by rw [HGLL.out, HUE.out])
                      have HGN : Hid (∀ e ∈ gv, e.n ≤ 2000) := Lib.hid (by rw [HGV.out]; exact given_n HT2.out)
                      replace HB := Lib.hid (HB.out.drew)
                      replace HG : Hid (LL w7.drew w7.drew.heap.size _ j c4 gv) := Lib.hid (HG.out.on ((Below.refl _ _).drew))
                      replace HT2 : Hid (T2 own gs w7.drew j _ X2 c1 c2) := Lib.hid (HT2.out.on ((Below.refl _ _).drew))
                      replace HU' : Hid (SI w7.drew w7.drew.heap.size AU nU cU U) := Lib.hid (HU'.out.on ((Below.refl _ _).drew))
                      replace HINT : Hid (SI w7.drew w7.drew.heap.size AI m cI (U.filter (inB own))) := Lib.hid (HINT.out.on ((Below.refl _ _).drew))
                      have R0 : Hid True := Lib.hid trivial
                      have R1 : Hid True := Lib.hid trivial
                      go_region_held3 (fun _ => True) (exact trivial)
                        (first
                          | (go_at_call 7; refine (union_any _ _ _ gv _ HG.out (by omega) HUN.out).mono ?_
                             rintro e wa ⟨Aa, na, ca, rfl, hsa, hba⟩
                             rw [HUG.out] at hsa
                             have HSA := Lib.hid hsa
                             replace HB := Lib.hid (after HB.out hba)
                             replace HG := Lib.hid (HG.out.on hba)
                             replace HT2 := Lib.hid (HT2.out.on hba)
                             replace HU' := Lib.hid (HU'.out.on hba)
                             replace HINT := Lib.hid (HINT.out.on hba)
                             clear hsa hba)
                          | (go_at_call 8; clear R0; refine (same_i _ _ _ _ _ _ _ _ _ _ HSA.out.2.2.2 HU'.out.2.2.2 HSA.out.n9 HU'.out.n9).mono ?_
                             rintro e wb ⟨rfl, hbb⟩
                             rw [eqB_true rfl]
                             replace HB := Lib.hid (after HB.out hbb)
                             replace HG := Lib.hid (HG.out.on hbb)
                             replace HT2 := Lib.hid (HT2.out.on hbb)
                             replace HU' := Lib.hid (HU'.out.on hbb)
                             replace HINT := Lib.hid (HINT.out.on hbb)
                             clear hbb HSA)
                          | (go_at_call 10; refine (inter_gen _ _ _ gv _ HG.out (by omega) HGN.out).mono ?_
                             rintro e wc ⟨Ac, nc, cc, rfl, hsc, hbc⟩
                             rw [HIE.out] at hsc
                             have HSC := Lib.hid hsc
                             replace HB := Lib.hid (after HB.out hbc)
                             replace HG := Lib.hid (HG.out.on hbc)
                             replace HT2 := Lib.hid (HT2.out.on hbc)
                             replace HU' := Lib.hid (HU'.out.on hbc)
                             replace HINT := Lib.hid (HINT.out.on hbc)
                             clear hsc hbc)
                          | (go_at_call 8; clear R1; refine (same_i _ _ _ _ _ _ _ _ _ _ HSC.out.2.2.2 HINT.out.2.2.2 HSC.out.n9 HINT.out.n9).mono ?_
                             rintro e wd ⟨rfl, hbd⟩
                             rw [eqB_true rfl]
                             replace HB := Lib.hid (after HB.out hbd)
                             replace HG := Lib.hid (HG.out.on hbd)
                             replace HT2 := Lib.hid (HT2.out.on hbd)
                             replace HU' := Lib.hid (HU'.out.on hbd)
                             clear hbd HSC HINT)
                          | (go_at_call 13; refine (first_any nn _ _ _ gv _ HG.out (by omega) HUN.out).mono ?_
                             rintro e wf ⟨vf, rfl, hmf, hbf⟩
                             rw [HUG.out, ← HMM.out] at hmf
                             obtain ⟨Af, cf, rfl⟩ := hmf.form
                             have HSF := Lib.hid hmf.si
                             replace HB := Lib.hid (after HB.out hbf)
                             replace HT2 := Lib.hid (HT2.out.on hbf)
                             replace HU' := Lib.hid (HU'.out.on hbf)
                             clear hmf hbf)
                          | (go_at_call 8; refine (same_i _ _ _ _ _ _ _ _ _ _ HSF.out.2.2.2 (HU'.out.take HMK.out).2.2.2 HSF.out.n9 (HU'.out.take HMK.out).n9).mono ?_
                             rintro e wg ⟨rfl, hbg⟩
                             rw [eqB_true HTK.out]
                             replace HB := Lib.hid (after HB.out hbg)
                             replace HT2 := Lib.hid (HT2.out.on hbg)
                             clear hbg HSF HU'))
                      go_wp2
                      go_loopw [169] (fun i wr => ∃ q : Nat, i = .int .i64 q ∧ q ≤ j ∧ Hid (Below wg.heap.size wg wr)) (fun i _ => j - (intOf i).toNat)
                      case atStart => exact ⟨0, rfl, Nat.zero_le _, Lib.hid (Below.refl _ _)⟩
                      case round =>
                        rename World => wh
                        obtain ⟨q, rfl, hq, HBH⟩ := hrel
                        have HTH : Hid (T2 own gs wh.drew j _ X2 c1 c2) := Lib.hid (HT2.out.on HBH.out.drew)
                        by_cases hltq : q < j
                        · obtain ⟨adF, hadF, hcF, _⟩ := HTH.out.full.at_ hltq
                          obtain ⟨adP, hadP, hcO, hsO⟩ := HTH.out.own_.at_ hltq
                          subst hadF
                          injection hadP with hadP
                          rw [← hadP] at hcO
                          clear hadP
                          rw [zip_get fullOf dA (by rw [HT2.out.len]; exact hltq) (by rw [HT2.out.lg]; exact hltq)] at hcF
                          have hen40 : (own.getD q dA).n ≤ 40 := (HT2.out.n40 _ (getA_mem (by rw [HT2.out.len]; exact hltq))).2
                          have HWB := Lib.hid (HTH.out.wb q hltq)
                          generalize own.getD q dA = e at *
                          generalize gs.getD q 0 = g at *
                          obtain ⟨eA, en, ec, el⟩ := e
                          simp only [Ar.v, fullOf] at hcF hcO
                          simp only at hen40 hsO
                          have HSO := Lib.hid hsO
                          clear hsO
                          go_wp2
                          go_region_held3 (fun w' => w'.cell? (adF.add q) = some (.slice (some ⟨g, 0, none⟩) (en + 80) (en + 80)) ∧ w'.cell? (adO.add q) = some (.slice eA en ec)) (first | (go_keep; done) | exact ⟨r1, r2⟩ | exact ⟨hcF, hcO⟩)
                            (first
                              | (go_at_call 17; refine (intact_i eA en ec g el (-5) _ HSO.out.2.2.2 HWB.out.2 HWB.out.1 (by omega)).mono ?_
                                 rintro e wi ⟨rfl, hbi⟩
                                 have r1 : wi.cell? (adF.add q) = some (.slice (some ⟨g, 0, none⟩) (en + 80) (en + 80)) := (hbi.cell (World.block_lt_of_cell? _ _ hcF)).trans hcF
                                 have r2 : wi.cell? (adO.add q) = some (.slice eA en ec) := (hbi.cell (World.block_lt_of_cell? _ _ hcO)).trans hcO
                                 have HBI : Hid (Below wg.heap.size wg wi) := Lib.hid (after HBH.out.drew hbi)
                                 clear hbi))
                          go_wp2
                          go_roundw
                          case rel => exact ⟨q + 1, by go_num, by omega, HBI⟩
                          case measure => simp only [intOf]; omega
                        · obtain rfl : q = j := by omega
                          replace HB := Lib.hid (after HB.out HBH.out)
                          clear HTH
                          go_wp2_with (first
                            | (go_at_call 12; refine (runs_any _).mono ?_
                               rintro e wz ⟨rfl, hbz⟩
                               replace HB := Lib.hid (after HB.out hbz)
                               clear hbz)
                            | fail)
                          go_ret
                          exact ⟨rfl, HB.out⟩
                · omega
end Go.Proofs.Ythgjpdbajmfclaa
