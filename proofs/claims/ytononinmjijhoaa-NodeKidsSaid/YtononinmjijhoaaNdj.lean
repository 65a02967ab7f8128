/-
  The law NodeKids at any numbers: the walk; conditions: the arguments are what their types allow.
-/
import Derived.Test.YtononinmjijhoaaNdg
import Derived.Test.YtononinmjijhoaaNdf
import Derived.Test.YtononinmjijhoaaNdi
import Derived.Test.YtononinmjijhoaaNdl
import Derived.Test.YtononinmjijhoaaNd6
import Derived.Test.YtononinmjijhoaaNd7
namespace Go.Proofs.Ytononinmjijhoaa
open Go.RowKit Go.WideShapes Go.ChangeShapes
set_option linter.all false
set_option maxRecDepth 100000 in
set_option maxHeartbeats 12800000 in
theorem kids_any (kk ww : Int) (pf : ByteArray) (A : Option Addr) (n c0 : Nat) (xs : List Int) (fr b slot : Int) (w : World) (hx : Reads w w.heap.size 1 A n (xs.map (Value.int .u8))) (hb : Byt xs) (hn : n ≤ maxLen) (hp : pf.size ≤ maxLen) (hw0 : 0 ≤ ww) (hw1 : ww < 18446744073709551616) (hb0 : 0 ≤ b) (hb256 : b < 256) :
    Calls Try.prog 4 #[.agg #[.int .i64 kk, .int .u64 ww, .string pf, .slice A n c0, .int .i64 fr], .int .u8 b, .int .i64 slot] w fun e w' => e = .returned (.bool true) ∧ Below w.heap.size w w' := by
  obtain ⟨s, hs⟩ : ∃ s, 0 + withinV slot (1023 - 0 + 1) = s := ⟨_, rfl⟩
  have HS9 : Hid (0 ≤ s ∧ s < 1024) := Lib.hid (by have := withinV_in slot (1023 - 0 + 1) (by omega); omega)
  have HQ := Lib.hid hs
  obtain ⟨kid, hkid⟩ : ∃ kid, refV s 999 false = kid := ⟨_, rfl⟩
  have HKD := Lib.hid hkid
  have HBW : Hid (Below w.heap.size w (w.alloc (.cells #[.int .i64 kk, .int .u64 ww, .string pf, .slice A n c0, .int .i64 fr] 25))) := Lib.hid ((Below.refl _ _).alloc (Nat.le_refl _) _)
  have HX : Hid (Reads (w.alloc (.cells #[.int .i64 kk, .int .u64 ww, .string pf, .slice A n c0, .int .i64 fr] 25)) (w.alloc (.cells #[.int .i64 kk, .int .u64 ww, .string pf, .slice A n c0, .int .i64 fr] 25)).heap.size 1 A n (xs.map (Value.int .u8))) := Lib.hid ((hx.below HBW.out).more HBW.out.size)
  have HBY := Lib.hid hb
  have HWX := Lib.hid (And.intro hw0 hw1)
  clear hx hb hw0 hw1 hs hkid
  go_enter Try.func4, Try.ntmps4
  go_upto_region 2 with (first
    | (go_at_call 9; refine (made_any kk ww pf A n c0 xs fr _ HX.out HBY.out hn hp HWX.out.1 HWX.out.2).mono ?_
       rintro e w1 ⟨v, kd, wd, pf', zs, ks, m, rfl, hnl, hm, hpw, hby, hk1, hkd4, hwd0, hwd1, D, d, D', d', rfl, hmx, hmy, hb1⟩
       unfold nodeV
       have hal := (Below.refl w1.heap.size w1).alloc (Nat.le_refl _) (.cells #[.int .i64 kd, .int .u64 wd, .string pf', .slice D m d, .slice D' m d'] 28)
       have BZ := (HBW.out.trans (hb1.mono HBW.out.size)).trans (hal.mono (by have := HBW.out.size; have := hb1.size; omega))
       have NW := NX.new (kd := kd) (wd := wd) (pf := pf') HBW.out.size hb1.size hmx hmy
       obtain ⟨wz, hw⟩ : ∃ wz, w1.alloc (.cells #[.int .i64 kd, .int .u64 wd, .string pf', .slice D m d, .slice D' m d'] 28) = wz := ⟨_, rfl⟩
       rw [hw] at NW BZ
       obtain ⟨q, hq⟩ : ∃ q, w1.heap.size = q := ⟨_, rfl⟩
       rw [hq] at NW
       have HN := Lib.hid NW
       have HB := Lib.hid BZ
       have HWwz := Lib.hid hw
       have HQq := Lib.hid hq
       clear hw hq BZ hal NW
       have HNL := Lib.hid hnl
       have HPW := Lib.hid hpw
       have HBYZ := Lib.hid hby
       clear hmx hmy hb1 hnl hpw hby)
    | fail)
  rw [HWwz.out, HQq.out]
  clear HWwz HQq HX HBW HBY HWX
  have p0 := cell_of HN.out.box 0
  have p1 := cell_of HN.out.box 1
  have p2 := cell_of HN.out.box 2
  have p3 := cell_of HN.out.box 3
  have p4 := cell_of HN.out.box 4
  obtain ⟨T, hT⟩ : ∃ T, isN b zs = T := ⟨_, rfl⟩
  obtain ⟨was, hwas⟩ : ∃ was, (look b zs ks).getD 0 = was := ⟨_, rfl⟩
  have hlen : zs.length = m ∧ ks.length = m := ⟨klen HN.out.x.reads, klen HN.out.y.reads⟩
  have HLEN := Lib.hid hlen
  have HLK := Lib.hid (fun c : Int => look_pos c zs ks (by rw [hlen.1, hlen.2]))
  have HT := Lib.hid hT
  have HWAS := Lib.hid hwas
  have HFB : Hid (fndB b zs = T) := Lib.hid (by rw [fndB_is HPW.out, hT])
  have HFV : Hid (fndV b zs ks = was) := Lib.hid (by rw [(HLK.out b).2, hwas])
  clear hT hwas hlen
  go_upto_region 4 with (first
    | (go_at_call 10; refine (within_any _ 0 1023 (by omega) (by omega) (by omega) _).mono ?_; rintro e w' ⟨rfl, rfl⟩; rw [HQ.out])
    | (go_at_call 17; refine (ref_any s 999 false HS9.out.1 HS9.out.2 (by omega) (by omega) _).mono ?_; rintro e w' ⟨rfl, hw'⟩; replace hw' := hw'.symm; subst hw'; rw [HKD.out])
    | (go_at_call 18; refine (find_any kd wd pf' D d D' d' m zs ks b _ (by omega) HN.out.x.reads HN.out.y.reads).mono ?_
       rintro e w2 ⟨rfl, hb2⟩
       rw [HFV.out, HFB.out]
       have HN1 := Lib.hid (HN.out.keep hb2)
       have HB1 := Lib.hid (HB.out.trans (hb2.mono HB.out.size))
       clear hb2)
    | fail)
  clear p0 p1 p2 p3 p4 HN HB HQ
  have r0 := cell_of HN1.out.box 0
  have r1 := cell_of HN1.out.box 1
  have r2 := cell_of HN1.out.box 2
  have r3 := cell_of HN1.out.box 3
  have r4 := cell_of HN1.out.box 4
  by_cases hok : isN b zs = true ∨ (m : Int) < highV kd
  · have HOK : Hid ((isN b zs || decide ((m : Int) < highV kd)) = true) := Lib.hid (by rcases hok with h | h <;> simp [h])
    clear hok
    go_upto_block 0 with (first
      | (go_at_call 19
         have WO := with_any kd wd pf' D d D' d' m zs ks b kid s 999 false w2 HNL.out hm HKD.out.symm HS9.out.1 HS9.out.2 (by omega) (by omega) HN1.out.x.reads HN1.out.y.reads
         unfold nodeV at WO
         refine WO.mono ?_
         clear WO
         rintro e w3 ⟨kd9, wd9, pf9, G, g, G', g', m2, zs2, ks2, rfl, hmx, hmy, hb3, him⟩
         rw [HOK.out] at him ⊢
         obtain ⟨rfl, rfl, rfl, hzs, hks⟩ := him rfl
         rw [← putK_is b kid zs ks (by rw [HLEN.out.1, HLEN.out.2])] at hks
         unfold nodeV
         have hal := (Below.refl w3.heap.size w3).alloc (Nat.le_refl _) (.cells #[.int .i64 kd9, .int .u64 wd9, .string pf9, .slice G m2 g, .slice G' m2 g'] 28)
         have BZ := (HB1.out.trans (hb3.mono HB1.out.size)).trans (hal.mono (by have := HB1.out.size; have := hb3.size; omega))
         have NW := NX.new (kd := kd9) (wd := wd9) (pf := pf9) HB1.out.size hb3.size hmx hmy
         have NZ0 := (HN1.out.keep hb3).keep hal
         obtain ⟨w4, hw⟩ : ∃ w4, w3.alloc (.cells #[.int .i64 kd9, .int .u64 wd9, .string pf9, .slice G m2 g, .slice G' m2 g'] 28) = w4 := ⟨_, rfl⟩
         rw [hw] at NW BZ NZ0
         obtain ⟨q2, hq⟩ : ∃ q2, w3.heap.size = q2 := ⟨_, rfl⟩
         rw [hq] at NW
         have K2 := Lib.hid NW
         have K1 := Lib.hid NZ0
         have HB4 := Lib.hid BZ
         have HWw4 := Lib.hid hw
         have HQq2 := Lib.hid hq
         clear hw hq BZ hal NW NZ0
         have HZS := Lib.hid hzs
         have HKS := Lib.hid hks
         clear hmx hmy hb3 hzs hks him)
      | fail)
    rw [HWw4.out, HQq2.out]
    clear HWw4 HQq2 r0 r1 r2 r3 r4 HN1 HB1
    have HLEN2 : Hid (zs2.length = m2 ∧ ks2.length = m2) := Lib.hid ⟨klen K2.out.x.reads, klen K2.out.y.reads⟩
    have HLK2 : Hid (∀ c : Int, fndB c zs2 = (if c = b then some kid else look c zs ks).isSome ∧ fndV c zs2 ks2 = (if c = b then some kid else look c zs ks).getD 0) := Lib.hid (fun c => by
      have h1 := look_pos c zs2 ks2 (by rw [HLEN2.out.1, HLEN2.out.2])
      have h2 := look_put b kid c zs ks (by rw [HLEN.out.1, HLEN.out.2])
      rw [HZS.out, HKS.out] at h1 ⊢
      rw [h2] at h1
      exact h1)
    have HM2 : Hid (m2 ≤ m + 1) := Lib.hid (by have h1 := HLEN2.out.1; have h2 := putL_len b zs; rw [← HZS.out, h1, HLEN.out.1] at h2; exact h2)
    have HST : Hid (NX w.heap.size q kd9 wd9 pf9 D d D' d' m zs ks w4 ∧ NX w.heap.size q2 kd9 wd9 pf9 G g G' g' m2 zs2 ks2 w4 ∧ Below w.heap.size w w4) := Lib.hid ⟨K1.out, K2.out, HB4.out⟩
    have hm2 : m2 ≤ 300 := by have := HM2.out; omega
    clear K1 K2 HB4
    go_wp2
    go_loopw [13, 14, 15, 16, 17] (fun i _ _ _ _ wr => ∃ j : Nat, i = .int .i64 j ∧ j ≤ 256 ∧ Hid (NX w.heap.size q kd9 wd9 pf9 D d D' d' m zs ks wr ∧ NX w.heap.size q2 kd9 wd9 pf9 G g G' g' m2 zs2 ks2 wr ∧ Below w.heap.size w wr)) (fun i _ _ _ _ _ => 256 - (intOf i).toNat)
    case atStart => exact ⟨0, rfl, by omega, HST⟩
    case round =>
      obtain ⟨j, rfl, hj, H⟩ := hrel
      have K1 := Lib.hid H.out.1
      have K2 := Lib.hid H.out.2.1
      have HB4 := Lib.hid H.out.2.2
      clear H
      have a0 := cell_of K1.out.box 0
      have a1 := cell_of K1.out.box 1
      have a2 := cell_of K1.out.box 2
      have a3 := cell_of K1.out.box 3
      have a4 := cell_of K1.out.box 4
      by_cases hlt : j < 256
      · have hj1 : (j : Int) < 256 := by omega
        have hj0 : (0 : Int) ≤ (j : Int) := by omega
        have ARM : True := trivial
        have F1 : Hid True := trivial
        by_cases hjb : (j : Int) = b
        · have HRV : Hid (fndB (j : Int) zs2 = true) := Lib.hid (by rw [(HLK2.out _).1, if_pos hjb]; rfl)
          have HYV : Hid (fndV (j : Int) zs2 ks2 = kid) := Lib.hid (by rw [(HLK2.out _).2, if_pos hjb]; rfl)
          have e1 : ((j : Int) == b) = true := by simpa using hjb
          have e2 : ((j : Int) != b) = false := by simp [hjb]
          clear hjb
          obtain ⟨xv, hxv⟩ : ∃ xv, fndV (j : Int) zs ks = xv := ⟨_, rfl⟩
          obtain ⟨pv, hpv⟩ : ∃ pv, fndB (j : Int) zs = pv := ⟨_, rfl⟩
          have HXV := Lib.hid hxv
          have HPV := Lib.hid hpv
          clear hxv hpv
          go_wp2_with (first
            | (go_at_call 18; clear F1; refine (find_any kd9 wd9 pf9 D d D' d' m zs ks (j : Int) _ (by omega) K1.out.x.reads K1.out.y.reads).mono ?_
               rintro e w5 ⟨rfl, hb5⟩
               rw [HXV.out, HPV.out]
               have L1 := Lib.hid (K1.out.keep hb5)
               have L2 := Lib.hid (K2.out.keep hb5)
               have HB5 := Lib.hid (HB4.out.trans (hb5.mono HB4.out.size))
               clear hb5
               have s0 := cell_of L2.out.box 0
               have s1 := cell_of L2.out.box 1
               have s2 := cell_of L2.out.box 2
               have s3 := cell_of L2.out.box 3
               have s4 := cell_of L2.out.box 4
               have F2 : Hid True := trivial)
            | (go_at_call 18; clear F2; refine (find_any kd9 wd9 pf9 G g G' g' m2 zs2 ks2 (j : Int) _ hm2 L2.out.x.reads L2.out.y.reads).mono ?_
               rintro e w6 ⟨rfl, hb6⟩
               rw [HYV.out, HRV.out]
               have M1 := Lib.hid (L1.out.keep hb6)
               have M2 := Lib.hid (L2.out.keep hb6)
               have HB6 := Lib.hid (HB5.out.trans (hb6.mono HB5.out.size))
               clear hb6)
            | fail)
          go_roundw
          case rel => exact ⟨j + 1, by go_num, by omega, Lib.hid ⟨M1.out, M2.out, HB6.out⟩⟩
          case measure => simp only [intOf]; omega
        · obtain ⟨xv, hxv⟩ : ∃ xv, fndV (j : Int) zs ks = xv := ⟨_, rfl⟩
          obtain ⟨pv, hpv⟩ : ∃ pv, fndB (j : Int) zs = pv := ⟨_, rfl⟩
          have HRV : Hid (fndB (j : Int) zs2 = pv) := Lib.hid (by rw [(HLK2.out _).1, if_neg hjb, ← (HLK.out _).1, hpv])
          have HYV : Hid (fndV (j : Int) zs2 ks2 = xv) := Lib.hid (by rw [(HLK2.out _).2, if_neg hjb, ← (HLK.out _).2, hxv])
          have e1 : ((j : Int) == b) = false := by simpa using hjb
          have e2 : ((j : Int) != b) = true := by simp [hjb]
          clear hjb
          have HXV := Lib.hid hxv
          have HPV := Lib.hid hpv
          clear hxv hpv
          go_wp2_with (first
            | (go_at_call 18; clear F1; refine (find_any kd9 wd9 pf9 D d D' d' m zs ks (j : Int) _ (by omega) K1.out.x.reads K1.out.y.reads).mono ?_
               rintro e w5 ⟨rfl, hb5⟩
               rw [HXV.out, HPV.out]
               have L1 := Lib.hid (K1.out.keep hb5)
               have L2 := Lib.hid (K2.out.keep hb5)
               have HB5 := Lib.hid (HB4.out.trans (hb5.mono HB4.out.size))
               clear hb5
               have s0 := cell_of L2.out.box 0
               have s1 := cell_of L2.out.box 1
               have s2 := cell_of L2.out.box 2
               have s3 := cell_of L2.out.box 3
               have s4 := cell_of L2.out.box 4
               have F2 : Hid True := trivial)
            | (go_at_call 18; clear F2; refine (find_any kd9 wd9 pf9 G g G' g' m2 zs2 ks2 (j : Int) _ hm2 L2.out.x.reads L2.out.y.reads).mono ?_
               rintro e w6 ⟨rfl, hb6⟩
               rw [HYV.out, HRV.out]
               have M1 := Lib.hid (L1.out.keep hb6)
               have M2 := Lib.hid (L2.out.keep hb6)
               have HB6 := Lib.hid (HB5.out.trans (hb6.mono HB5.out.size))
               clear hb6)
            | fail)
          go_roundw
          case rel => exact ⟨j + 1, by go_num, by omega, Lib.hid ⟨M1.out, M2.out, HB6.out⟩⟩
          case measure => simp only [intOf]; omega
      · obtain rfl : j = 256 := by omega
        have hj2 : ¬ ((256 : Nat) : Int) < 256 := by omega
        have HH2 : Hid ((m2 : Int) ≤ highV kd9) := Lib.hid (by
          have h0 := HNL.out.high
          have h1 := HLEN2.out.1
          rw [HZS.out] at h1
          by_cases hi : isN b zs = true
          · rw [putL_is, if_pos hi, HLEN.out.1] at h1; omega
          · have h2 := HOK.out
            rw [show isN b zs = false from by simpa using hi] at h2
            have h3 : (m : Int) < highV kd9 := by simpa using h2
            have := HM2.out; omega)
        have h256 : highV kd9 ≤ 256 := by unfold highV; repeat (split; omega); omega
        have hm22 : m2 ≤ 256 := by have := HH2.out; omega
        have HNL2 : Hid (NodeL kd9 wd9 pf9 zs2 ks2 m2) := Lib.hid ⟨HH2.out, HNL.out.kind, HNL.out.word, HNL.out.pref, by rw [HZS.out]; exact pw_asc (putL_pw b zs HPW.out), refs_mem.2 (fun y hy => by
          rw [HKS.out] at hy
          rcases putK_mem b kid zs ks y hy with rfl | h
          · exact ⟨s, 999, false, HKD.out.symm, HS9.out.1, HS9.out.2, by omega, by omega⟩
          · exact refs_mem.1 HNL.out.refs y h)⟩
        have HIS : Hid (isN b zs2 = true) := Lib.hid (by rw [HZS.out]; exact isN_put b zs)
        have HLE3 : Hid ((dropL b zs2).length + 1 = m2) := Lib.hid (by rw [dropL_len b zs2 HIS.out, HLEN2.out.1])
        clear hlt hj h256 a0 a1 a2 a3 a4
        have z0 := cell_of K2.out.box 0
        have z1 := cell_of K2.out.box 1
        have z2 := cell_of K2.out.box 2
        have z3 := cell_of K2.out.box 3
        have z4 := cell_of K2.out.box 4
        go_upto_region 15 with (first
          | (go_at_call 20; refine (without_yes kd9 wd9 pf9 G g G' g' m2 zs2 ks2 b _ HNL2.out hm22 HIS.out K2.out.x.reads K2.out.y.reads).mono ?_
             rintro e w5 ⟨v, rfl, E, e1, E', e2, rfl, hmx, hmy, hb5⟩
             rw [dropL_is b zs2 HIS.out] at hmx
             rw [dropK_is b zs2 ks2 (by rw [HLEN2.out.1, HLEN2.out.2]) HIS.out] at hmy
             unfold nodeV
             obtain ⟨m3, hm3⟩ : ∃ m3, m2 - 1 = m3 := ⟨_, rfl⟩
             rw [hm3] at hmx hmy ⊢
             have hal := (Below.refl w5.heap.size w5).alloc (Nat.le_refl _) (.cells #[.int .i64 kd9, .int .u64 wd9, .string pf9, .slice E m3 e1, .slice E' m3 e2] 28)
             have BZ := (HB4.out.trans (hb5.mono HB4.out.size)).trans (hal.mono (by have := HB4.out.size; have := hb5.size; omega))
             have NW := NX.new (kd := kd9) (wd := wd9) (pf := pf9) HB4.out.size hb5.size hmx hmy
             have NZ0 := (K1.out.keep hb5).keep hal
             have NZ1 := (K2.out.keep hb5).keep hal
             obtain ⟨w6, hw⟩ : ∃ w6, w5.alloc (.cells #[.int .i64 kd9, .int .u64 wd9, .string pf9, .slice E m3 e1, .slice E' m3 e2] 28) = w6 := ⟨_, rfl⟩
             rw [hw] at NW BZ NZ0 NZ1
             obtain ⟨q3, hq⟩ : ∃ q3, w5.heap.size = q3 := ⟨_, rfl⟩
             rw [hq] at NW
             have L3 := Lib.hid NW
             have L1 := Lib.hid NZ0
             have L2 := Lib.hid NZ1
             have HB6 := Lib.hid BZ
             have HWw6 := Lib.hid hw
             have HQq3 := Lib.hid hq
             clear hw hq BZ hal NW NZ0 NZ1
             have HM3 := Lib.hid hm3
             clear hmx hmy hb5 hm3)
          | fail)
        rw [HWw6.out, HQq3.out]
        clear HWw6 HQq3 z0 z1 z2 z3 z4 K1 K2 HB4
        obtain ⟨zs3, hz3⟩ : ∃ zs3, dropL b zs2 = zs3 := ⟨_, rfl⟩
        obtain ⟨ks3, hk3⟩ : ∃ ks3, dropK b zs2 ks2 = ks3 := ⟨_, rfl⟩
        rw [hz3, hk3] at L3
        have HZ3 := Lib.hid hz3
        have HK3 := Lib.hid hk3
        have hm33 : m3 + 1 = m2 := by have h1 := HLE3.out; have h2 := HM3.out; omega
        have HNL3 : Hid (NodeL kd9 wd9 pf9 zs3 ks3 m3) := Lib.hid ⟨by have := HH2.out; omega, HNL.out.kind, HNL.out.word, HNL.out.pref, by rw [← hz3, HZS.out]; exact pw_asc (dropL_pw b _ (putL_pw b zs HPW.out)), refs_mem.2 (fun y hy => by
          rw [← hk3] at hy
          exact refs_mem.1 HNL2.out.refs y (dropK_mem b zs2 ks2 y hy))⟩
        clear hz3 hk3
        have F1 : Hid True := trivial
        have a0 := cell_of L2.out.box 0
        have a1 := cell_of L2.out.box 1
        have a2 := cell_of L2.out.box 2
        have a3 := cell_of L2.out.box 3
        have a4 := cell_of L2.out.box 4
        go_upto_region 17 with (first
          | (go_at_call 21; clear F1; refine (right_any kd9 wd9 pf9 G g G' g' m2 zs2 ks2 _ HNL2.out hm22 L2.out.x.reads L2.out.y.reads).mono ?_
             rintro e w7 ⟨rfl, hb7⟩
             have M1 := Lib.hid (L1.out.keep hb7)
             have M3 := Lib.hid (L3.out.keep hb7)
             have HB7 := Lib.hid (HB6.out.trans (hb7.mono HB6.out.size))
             have s0 := cell_of M3.out.box 0
             have s1 := cell_of M3.out.box 1
             have s2 := cell_of M3.out.box 2
             have s3 := cell_of M3.out.box 3
             have s4 := cell_of M3.out.box 4
             clear hb7
             have F2 : Hid True := trivial)
          | (go_at_call 21; clear F2; refine (right_any kd9 wd9 pf9 E e1 E' e2 m3 zs3 ks3 _ HNL3.out (by omega) M3.out.x.reads M3.out.y.reads).mono ?_
             rintro e w8 ⟨rfl, hb8⟩
             have N1 := Lib.hid (M1.out.keep hb8)
             have N3 := Lib.hid (M3.out.keep hb8)
             have HB8 := Lib.hid (HB7.out.trans (hb8.mono HB7.out.size))
             clear hb8)
          | fail)
        clear L1 L2 L3 HB6 M1 M3 HB7
        have x0 := cell_of N1.out.box 0
        have x1 := cell_of N1.out.box 1
        have x2 := cell_of N1.out.box 2
        have x3 := cell_of N1.out.box 3
        have x4 := cell_of N1.out.box 4
        have y0 := cell_of N3.out.box 0
        have y1 := cell_of N3.out.box 1
        have y2 := cell_of N3.out.box 2
        have y3 := cell_of N3.out.box 3
        have y4 := cell_of N3.out.box 4
        cases T
        · have HZE : Hid (zs3 = zs ∧ ks3 = ks) := Lib.hid ⟨by rw [← HZ3.out, HZS.out]; exact drop_putL b zs HT.out, by rw [← HK3.out, HZS.out, HKS.out]; exact drop_putK b kid zs ks (by rw [HLEN.out.1, HLEN.out.2]) HT.out⟩
          have N3' : Hid (NX w.heap.size q3 kd9 wd9 pf9 E e1 E' e2 m zs ks w8 ∧ m3 = m) := Lib.hid (by
            have h := N3.out
            rw [HZE.out.1, HZE.out.2] at h
            have : m3 = m := by have h1 := klen h.x.reads; rw [HLEN.out.1] at h1; exact h1.symm
            subst this
            exact ⟨h, rfl⟩)
          have hmm := N3'.out.2
          subst hmm
          have N4 := Lib.hid N3'.out.1
          clear HZE N3' N3
          go_wp2_with (first
            | (go_at_call 14; refine (sameN_any kd9 wd9 pf9 E e1 E' e2 D d D' d' m3 zs ks w8 hm N4.out.x.reads N4.out.y.reads N1.out.x.reads N1.out.y.reads).mono ?_
               rintro e w9 ⟨rfl, hb9⟩
               have HB9 := Lib.hid (HB8.out.trans (hb9.mono HB8.out.size))
               clear hb9)
            | (go_at_call 13; refine (runs_any _).mono ?_
               rintro e w10 ⟨rfl, hb10⟩
               have HBF := Lib.hid (HB9.out.trans (hb10.mono HB9.out.size))
               clear hb10)
            | fail)
          go_ret
          exact ⟨rfl, HBF.out⟩
        · have HREF : Hid (IsRef was) := Lib.hid (by
            have h1 := (HLK.out b).1
            rw [fndB_is HPW.out, HT.out] at h1
            rw [← HWAS.out]
            cases hl : look b zs ks with
            | none => rw [hl] at h1; simp at h1
            | some y => exact refs_mem.1 HNL.out.refs y (look_mem b zs ks y hl))
          obtain ⟨s9, g9, l9, hwe, hr0, hr1, hr2, hr3⟩ := HREF.out
          have HWE := Lib.hid hwe
          clear hwe HREF
          have HOK3 : Hid ((isN b zs3 || decide ((m3 : Int) < highV kd9)) = true) := Lib.hid (by rw [decide_eq_true (by have := HH2.out; omega)]; simp)
          have HBK : Hid (putL b zs3 = zs ∧ putK b was zs3 ks3 = ks) := Lib.hid ⟨by rw [← HZ3.out, HZS.out]; exact back_putL b zs HPW.out HT.out, by rw [← HWAS.out, ← HZ3.out, ← HK3.out, HZS.out, HKS.out]; exact back_putK b kid zs ks (by rw [HLEN.out.1, HLEN.out.2]) HPW.out HT.out⟩
          have HLEN3 : Hid (zs3.length = ks3.length) := Lib.hid ((klen N3.out.x.reads).trans (klen N3.out.y.reads).symm)
          go_upto_region 19 with (first
            | (go_at_call 19
               have WO := with_any kd9 wd9 pf9 E e1 E' e2 m3 zs3 ks3 b was s9 g9 l9 w8 HNL3.out (by omega) HWE.out hr0 hr1 hr2 hr3 N3.out.x.reads N3.out.y.reads
               unfold nodeV at WO
               refine WO.mono ?_
               clear WO
               rintro e w9 ⟨kd8, wd8, pf8, R, r1, R', r2, m4, zs4, ks4, rfl, hmx, hmy, hb9, him⟩
               rw [HOK3.out] at him ⊢
               obtain ⟨f1, f2, f3, hzs, hks⟩ := him rfl
               replace f1 := f1.symm
               replace f2 := f2.symm
               replace f3 := f3.symm
               subst f1 f2 f3
               rw [← putK_is b was zs3 ks3 HLEN3.out, HBK.out.2] at hks
               rw [HBK.out.1] at hzs
               rw [hzs] at hmx
               rw [hks] at hmy
               unfold nodeV
               have hal := (Below.refl w9.heap.size w9).alloc (Nat.le_refl _) (.cells #[.int .i64 kd9, .int .u64 wd9, .string pf9, .slice R m4 r1, .slice R' m4 r2] 28)
               have BZ := (HB8.out.trans (hb9.mono HB8.out.size)).trans (hal.mono (by have := HB8.out.size; have := hb9.size; omega))
               have NW := NX.new (kd := kd9) (wd := wd9) (pf := pf9) HB8.out.size hb9.size hmx hmy
               have NZ0 := (N1.out.keep hb9).keep hal
               obtain ⟨wa, hw⟩ : ∃ wa, w9.alloc (.cells #[.int .i64 kd9, .int .u64 wd9, .string pf9, .slice R m4 r1, .slice R' m4 r2] 28) = wa := ⟨_, rfl⟩
               rw [hw] at NW BZ NZ0
               obtain ⟨q4, hq⟩ : ∃ q4, w9.heap.size = q4 := ⟨_, rfl⟩
               rw [hq] at NW
               have P4 := Lib.hid NW
               have P1 := Lib.hid NZ0
               have HBA := Lib.hid BZ
               have HWwa := Lib.hid hw
               have HQq4 := Lib.hid hq
               clear hw hq BZ hal NW NZ0
               clear hmx hmy hb9 hzs hks him)
            | fail)
          rw [HWwa.out, HQq4.out]
          have hm4 : m4 = m := by have h1 := klen P4.out.x.reads; rw [HLEN.out.1] at h1; exact h1.symm
          subst hm4
          clear HWwa HQq4 N1 N3 HB8
          have u0 := cell_of P4.out.box 0
          have u1 := cell_of P4.out.box 1
          have u2 := cell_of P4.out.box 2
          have u3 := cell_of P4.out.box 3
          have u4 := cell_of P4.out.box 4
          have v0 := cell_of P1.out.box 0
          have v1 := cell_of P1.out.box 1
          have v2 := cell_of P1.out.box 2
          have v3 := cell_of P1.out.box 3
          have v4 := cell_of P1.out.box 4
          go_wp2_with (first
            | (go_at_call 14; refine (sameN_any kd9 wd9 pf9 R r1 R' r2 D d D' d' m4 zs ks _ hm P4.out.x.reads P4.out.y.reads P1.out.x.reads P1.out.y.reads).mono ?_
               rintro e wb ⟨rfl, hbb⟩
               have HB9 := Lib.hid (HBA.out.trans (hbb.mono HBA.out.size))
               clear hbb)
            | (go_at_call 13; refine (runs_any _).mono ?_
               rintro e wc ⟨rfl, hbc⟩
               have HBF := Lib.hid (HB9.out.trans (hbc.mono HB9.out.size))
               clear hbc)
            | fail)
          go_ret
          exact ⟨rfl, HBF.out⟩
  · have hi : isN b zs = false := by
      cases hi : isN b zs
      · rfl
      · exact absurd (.inl hi) hok
    have hfull : (m : Int) = highV kd := by
      have h1 := HNL.out.high
      have h2 : ¬ (m : Int) < highV kd := fun h => hok (.inr h)
      omega
    have hT0 : T = false := by rw [← HT.out, hi]
    subst hT0
    have HI := Lib.hid hi
    have HFU := Lib.hid hfull
    clear hi hfull hok
    go_upto_region 6 with (first
      | (go_at_call 19
         have WO := with_full kd wd pf' D d D' d' m zs ks b kid s 999 false w2 HNL.out hm HKD.out.symm HS9.out.1 HS9.out.2 (by omega) (by omega) HI.out HFU.out HN1.out.x.reads HN1.out.y.reads
         unfold nodeV at WO
         refine WO.mono ?_
         clear WO
         rintro e w3 ⟨rfl, hb3⟩
         have hal := (Below.refl w3.heap.size w3).alloc (Nat.le_refl _) (.cells #[.int .i64 0, .int .u64 0, .string ⟨#[]⟩, .slice none 0 0, .slice none 0 0] 28)
         have BZ := (HB1.out.trans (hb3.mono HB1.out.size)).trans (hal.mono (by have := HB1.out.size; have := hb3.size; omega))
         have NZ0 := (HN1.out.keep hb3).keep hal
         obtain ⟨w4, hw⟩ : ∃ w4, w3.alloc (.cells #[.int .i64 0, .int .u64 0, .string ⟨#[]⟩, .slice none 0 0, .slice none 0 0] 28) = w4 := ⟨_, rfl⟩
         rw [hw] at BZ NZ0
         obtain ⟨q2, hq⟩ : ∃ q2, w3.heap.size = q2 := ⟨_, rfl⟩
         have K1 := Lib.hid NZ0
         have HB4 := Lib.hid BZ
         have HWw4 := Lib.hid hw
         have HQq2 := Lib.hid hq
         clear hw hq BZ hal  NZ0
         clear hb3)
      | fail)
    rw [HWw4.out]
    clear HWw4 HQq2 r0 r1 r2 r3 r4 HN1 HB1
    have HLT : Hid (q < w4.heap.size) := Lib.hid (lt_of_heap K1.out.box)
    refine wp_region_cls (S := w4.heap.size) (by kernel_rfl) (by kernel_rfl) (Nat.le_refl _) ?_
    repeat
      (refine wpQuiet_step (fun K hK => ?_)
       first
         | (refine cls_no (not_of_false ?_) ?_
            focus (go_simp; done)
            go_simp
            refine hK _ ?_; clear hK K)
         | (refine cls_yes ?_ ?_
            focus (go_simp; done)
            apply Exists.intro
            refine ⟨fun wc hc => ?_, ?_⟩
            focus
              have k3 := hc.cell (b := q) HLT.out 3 _ (cell_of K1.out.box 3)
              have k0 := hc.cell (b := q) HLT.out 0 _ (cell_of K1.out.box 0)
              go_simp
              first
                | done
                | (go_at_call 12; exact (high_any kd wc).mono fun e w' ⟨h1, h2⟩ => ⟨by rw [h1, ← HFU.out], h2 ▸ hc⟩)
                | (go_at_call 13; exact (runs_any wc).mono fun e w' ⟨h1, h2⟩ => ⟨h1, hc.next h2⟩)
                | rfl
            go_simp
            refine hK _ ?_; clear hK K)
         | fail)
    refine wpQuiet_nil ?_
    intro w9 hc9
    have HC9 := Lib.hid hc9
    clear hc9
    go_wp2
    go_ret
    exact ⟨rfl, HB4.out.trans (HC9.out.2.mono HB4.out.size)⟩
end Go.Proofs.Ytononinmjijhoaa
