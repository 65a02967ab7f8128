/-
  The law BlockBack at any ids and bytes: the walk; no condition beyond lengths that fit an int.
-/
import Derived.Test.YtoinanbpiemfoaaBk9
namespace Go.Proofs.Ytoinanbpiemfoaa
open Go.RowKit Go.WideShapes Go.ChangeShapes
set_option linter.all false
theorem encX_nb {l : List Nat} (h : rightN l = true) : rightI (nb l) = true ∧ encX (nb l) = encGo 0 l := by
  have : rightI (nb l) = true := by rw [show nb l = l.map Nat.cast from rfl, rightI_cast]; exact h
  exact ⟨this, by unfold encX; rw [if_pos this]; rw [show nb l = l.map Nat.cast from rfl, toNat_cast]⟩
theorem back_of {xs : List Int} (h : rightI xs = true) : ∃ l, xs = nb l ∧ decP (encX xs) = some l ∧ rightN l = true := by
  obtain ⟨l, rfl, hl⟩ := rightI_nat h
  exact ⟨l, rfl, (decP_iff _ _).2 ⟨hl, (encX_nb hl).2.symm⟩, hl⟩
theorem enc_eq {xa xb : List Int} (ha : rightI xa = true) (hb : rightI xb = true) : eqB (nb (encX xa)) (nb (encX xb)) = eqB xa xb := by
  obtain ⟨la, rfl, _, h1⟩ := back_of ha
  obtain ⟨lb, rfl, _, h2⟩ := back_of hb
  unfold eqB
  refine decide_eq_decide.2 ⟨fun h => ?_, fun h => by rw [h]⟩
  have := nb_inj h
  rw [(encX_nb h1).2, (encX_nb h2).2] at this
  rw [enc_inj h1 h2 this]
theorem Mid.cap {w : World} {N size : Nat} {t : TypeId} {A : Option Addr} {n c : Nat} {xs : List Value} (h : Mid w N t size (.slice A n c) n xs) : n ≤ c := by
  rcases h.2 with ⟨h', h0⟩ | ⟨g', off', cap', cur', h', _, _, hnc, _⟩
  · omega
  · simp only [Value.slice.injEq] at h'
    obtain ⟨_, _, rfl⟩ := h'
    exact hnc
theorem encX_byte (xs : List Int) : ∀ b ∈ encX xs, b < 256 := by
  unfold encX
  split
  · exact encGo_byte _ _
  · simp
set_option maxRecDepth 100000 in
set_option maxHeartbeats 3200000 in
theorem backn0 (A B C : Option Addr) (n ca m cb k cc : Nat) (xa xb : List Int) (cs : List Nat) (w : World) (hx : Reads w w.heap.size 1 A n (ks .i64 xa)) (hy : Reads w w.heap.size 1 B m (ks .i64 xb)) (hz : Reads w w.heap.size 1 C k (ks .u8 (nb cs))) (hb : ∀ b ∈ cs, b < 256)
    (hn : n ≤ 9223372036854775807) (hm : m ≤ 9223372036854775807) (hk : k ≤ 9223372036854775807) (hkc : k ≤ cc) (hd : decP cs = none) (ha : rightI xa = false) :
    Calls Try.prog 4 #[.slice A n ca, .slice B m cb, .slice C k cc] w fun e w' => e = .returned (.bool true) ∧ Below w.heap.size w w' := by
  have HX := Lib.hid hx
  have HY := Lib.hid hy
  have HZ := Lib.hid hz
  have HB := Lib.hid hb
  have F1 : Hid True := Lib.hid trivial
  have HG : Hid ((decP cs).getD [] = []) := Lib.hid (by rw [hd]; rfl)
  have HC0 : Hid (codeO (decP cs) = 5) := Lib.hid (by rw [hd]; rfl)
  have HA := Lib.hid ha
  clear hx hy hz hb hd ha
  go_enter Try.func4, Try.ntmps4
  go_wp2_with (first
    | (go_at_call 8; clear F1; refine (decode_any C k cc cs _ HZ.out HB.out hkc hk).mono ?_; rintro e w1 hp; obtain ⟨A1, c1, rfl, hb1, hm1⟩ := hp.at_; rw [HC0.out]; rw [HG.out] at hm1 ⊢; have M1 := Lib.hid hm1; have B1 := Lib.hid hb1; clear hm1 hb1)
    | (go_at_call 10; refine (right_any w1.heap.size A n ca xa _ (HX.out.on B1.out) hn).mono ?_; rintro e w' ⟨rfl, hw'⟩; rw [hw', HA.out]; clear hw')
    | (go_at_call 18; refine (runs_any _).mono ?_; rintro e wb ⟨rfl, hbb⟩; have Bb := Lib.hid hbb; clear hbb)
    | fail)
  all_goals
    go_ret
    exact ⟨rfl, (after B1.out Bb.out)⟩
set_option maxRecDepth 100000 in
set_option maxHeartbeats 3200000 in
theorem backn1 (A B C : Option Addr) (n ca m cb k cc : Nat) (xa xb : List Int) (cs : List Nat) (w : World) (hx : Reads w w.heap.size 1 A n (ks .i64 xa)) (hy : Reads w w.heap.size 1 B m (ks .i64 xb)) (hz : Reads w w.heap.size 1 C k (ks .u8 (nb cs))) (hb : ∀ b ∈ cs, b < 256)
    (hn : n ≤ 9223372036854775807) (hm : m ≤ 9223372036854775807) (hk : k ≤ 9223372036854775807) (hkc : k ≤ cc) (hd : decP cs = none) (ha : rightI xa = true) (hq : rightI xb = false) :
    Calls Try.prog 4 #[.slice A n ca, .slice B m cb, .slice C k cc] w fun e w' => e = .returned (.bool true) ∧ Below w.heap.size w w' := by
  have HX := Lib.hid hx
  have HY := Lib.hid hy
  have HZ := Lib.hid hz
  have HB := Lib.hid hb
  have F1 : Hid True := Lib.hid trivial
  have HG : Hid ((decP cs).getD [] = []) := Lib.hid (by rw [hd]; rfl)
  have HC0 : Hid (codeO (decP cs) = 5) := Lib.hid (by rw [hd]; rfl)
  have HA := Lib.hid ha
  have G2 : Hid True := Lib.hid trivial
  have HQ := Lib.hid hq
  clear hq
  clear hx hy hz hb hd ha
  go_enter Try.func4, Try.ntmps4
  go_wp2_with (first
    | (go_at_call 8; clear F1; refine (decode_any C k cc cs _ HZ.out HB.out hkc hk).mono ?_; rintro e w1 hp; obtain ⟨A1, c1, rfl, hb1, hm1⟩ := hp.at_; rw [HC0.out]; rw [HG.out] at hm1 ⊢; have M1 := Lib.hid hm1; have B1 := Lib.hid hb1; clear hm1 hb1)
    | (go_at_call 10; clear G2; refine (right_any w1.heap.size A n ca xa _ (HX.out.on B1.out) hn).mono ?_; rintro e w' ⟨rfl, hw'⟩; rw [hw', HA.out]; clear hw')
    | (go_at_call 10; refine (right_any w1.heap.size B m cb xb _ (HY.out.on B1.out) hm).mono ?_; rintro e w' ⟨rfl, hw'⟩; rw [hw', HQ.out]; clear hw')
    | (go_at_call 18; refine (runs_any _).mono ?_; rintro e wb ⟨rfl, hbb⟩; have Bb := Lib.hid hbb; clear hbb)
    | fail)
  all_goals
    go_ret
    exact ⟨rfl, (after B1.out Bb.out)⟩
set_option maxRecDepth 100000 in
set_option maxHeartbeats 3200000 in
theorem backn2 (A B C : Option Addr) (n ca m cb k cc : Nat) (xa xb : List Int) (cs : List Nat) (w : World) (hx : Reads w w.heap.size 1 A n (ks .i64 xa)) (hy : Reads w w.heap.size 1 B m (ks .i64 xb)) (hz : Reads w w.heap.size 1 C k (ks .u8 (nb cs))) (hb : ∀ b ∈ cs, b < 256)
    (hn : n ≤ 9223372036854775807) (hm : m ≤ 9223372036854775807) (hk : k ≤ 9223372036854775807) (hkc : k ≤ cc) (hd : decP cs = none) (ha : rightI xa = true) (hq : rightI xb = true) :
    Calls Try.prog 4 #[.slice A n ca, .slice B m cb, .slice C k cc] w fun e w' => e = .returned (.bool true) ∧ Below w.heap.size w w' := by
  have HX := Lib.hid hx
  have HY := Lib.hid hy
  have HZ := Lib.hid hz
  have HB := Lib.hid hb
  have F1 : Hid True := Lib.hid trivial
  have HG : Hid ((decP cs).getD [] = []) := Lib.hid (by rw [hd]; rfl)
  have HC0 : Hid (codeO (decP cs) = 5) := Lib.hid (by rw [hd]; rfl)
  have HA := Lib.hid ha
  have G2 : Hid True := Lib.hid trivial
  have HQ := Lib.hid hq
  have HEQ := Lib.hid (enc_eq ha hq)
  obtain ⟨la, hla, hda, hra⟩ := back_of ha
  have HLA := Lib.hid hla
  have HDG : Hid ((decP (encX xa)).getD [] = la) := Lib.hid (by rw [hda]; rfl)
  have HDC : Hid (codeO (decP (encX xa)) = 0) := Lib.hid (by rw [hda]; rfl)
  have HL1 : Hid (la.length ≤ 16) := Lib.hid (dec_len hda)
  have F3 : Hid True := Lib.hid trivial
  have F4 : Hid True := Lib.hid trivial
  have L1 : Hid True := Lib.hid trivial
  generalize hv : eqB xa xb = vb at HEQ
  have HV := Lib.hid hv
  clear hla hda hra hq hv
  clear hx hy hz hb hd ha
  go_enter Try.func4, Try.ntmps4
  go_wp2_with (first
    | (go_at_call 8; clear F1; refine (decode_any C k cc cs _ HZ.out HB.out hkc hk).mono ?_; rintro e w1 hp; obtain ⟨A1, c1, rfl, hb1, hm1⟩ := hp.at_; rw [HC0.out]; rw [HG.out] at hm1 ⊢; have M1 := Lib.hid hm1; have B1 := Lib.hid hb1; clear hm1 hb1)
    | (go_at_call 10; clear G2; refine (right_any w1.heap.size A n ca xa _ (HX.out.on B1.out) hn).mono ?_; rintro e w' ⟨rfl, hw'⟩; rw [hw', HA.out]; clear hw')
    | (go_at_call 10; refine (right_any w1.heap.size B m cb xb _ (HY.out.on B1.out) hm).mono ?_; rintro e w' ⟨rfl, hw'⟩; rw [hw', HQ.out]; clear hw')
    | (go_at_call 13; clear F3; refine (encode_any A n ca xa _ (HX.out.on B1.out) hn).mono ?_; rintro e w4 hp; obtain ⟨A4, c4, rfl, hb4, hm4, hl4⟩ := hp.at_; have M4 := Lib.hid hm4; have B4 := Lib.hid hb4; have L4 := Lib.hid hl4; have C4 := Lib.hid hm4.cap; clear hm4 hb4 hl4)
    | (go_at_call 8; refine (decode_any A4 _ c4 (encX xa) _ M4.out.reads (encX_byte xa) C4.out (by have := L4.out; omega)).mono ?_; rintro e w5 hp; obtain ⟨A5, c5, rfl, hb5, hm5⟩ := hp.at_; rw [HDC.out]; rw [HDG.out] at hm5 ⊢; have M5 := Lib.hid hm5; have B5 := Lib.hid hb5; clear hm5 hb5)
    | (go_at_call 15; clear L1; refine (same_i w5.heap.size _ _ _ _ _ _ _ _ _ M5.out.reads (HX.out.on (after (after B1.out B4.out) B5.out)) (by have := HL1.out; omega) hn).mono ?_; rintro e w6 ⟨rfl, hb6⟩; rw [HLA.out, eqB_self]; have B6 := Lib.hid hb6; clear hb6)
    | (go_at_call 13; clear F4; refine (encode_any A n ca xa _ (HX.out.on (after (after (after B1.out B4.out) B5.out) B6.out)) hn).mono ?_; rintro e w7 hp; obtain ⟨A7, c7, rfl, hb7, hm7, hl7⟩ := hp.at_; have M7 := Lib.hid hm7; have B7 := Lib.hid hb7; have L7 := Lib.hid hl7; clear hm7 hb7 hl7)
    | (go_at_call 13; refine (encode_any B m cb xb _ (HY.out.on (after (after (after (after B1.out B4.out) B5.out) B6.out) B7.out)) hm).mono ?_; rintro e w8 hp; obtain ⟨A8, c8, rfl, hb8, hm8, hl8⟩ := hp.at_; have M8 := Lib.hid hm8; have B8 := Lib.hid hb8; have L8 := Lib.hid hl8; clear hm8 hb8 hl8)
    | (go_at_call 12; refine (same_b w8.heap.size _ _ _ _ _ _ _ _ _ (M7.out.reads.on B8.out) M8.out.reads (by have := L7.out; omega) (by have := L8.out; omega)).mono ?_; rintro e w9 ⟨rfl, hb9⟩; rw [HEQ.out]; have B9 := Lib.hid hb9; clear hb9)
    | (go_at_call 15; refine (same_i w9.heap.size _ _ _ _ _ _ _ _ _ (HX.out.on (after (after (after (after (after (after B1.out B4.out) B5.out) B6.out) B7.out) B8.out) B9.out)) (HY.out.on (after (after (after (after (after (after B1.out B4.out) B5.out) B6.out) B7.out) B8.out) B9.out)) hn hm).mono ?_; rintro e wa ⟨rfl, hba⟩; rw [HV.out]; have Ba := Lib.hid hba; clear hba)
    | (go_at_call 18; refine (runs_any _).mono ?_; rintro e wb ⟨rfl, hbb⟩; have Bb := Lib.hid hbb; clear hbb)
    | fail)
  all_goals
    go_ret
    exact ⟨rfl, (after (after (after (after (after (after (after (after B1.out B4.out) B5.out) B6.out) B7.out) B8.out) B9.out) Ba.out) Bb.out)⟩
set_option maxRecDepth 100000 in
set_option maxHeartbeats 3200000 in
theorem backs0 (A B C : Option Addr) (n ca m cb k cc : Nat) (xa xb : List Int) (cs : List Nat) (w : World) (hx : Reads w w.heap.size 1 A n (ks .i64 xa)) (hy : Reads w w.heap.size 1 B m (ks .i64 xb)) (hz : Reads w w.heap.size 1 C k (ks .u8 (nb cs))) (hb : ∀ b ∈ cs, b < 256)
    (hn : n ≤ 9223372036854775807) (hm : m ≤ 9223372036854775807) (hk : k ≤ 9223372036854775807) (hkc : k ≤ cc) (l : List Nat) (hd : decP cs = some l) (ha : rightI xa = false) :
    Calls Try.prog 4 #[.slice A n ca, .slice B m cb, .slice C k cc] w fun e w' => e = .returned (.bool true) ∧ Below w.heap.size w w' := by
  have HX := Lib.hid hx
  have HY := Lib.hid hy
  have HZ := Lib.hid hz
  have HB := Lib.hid hb
  have F1 : Hid True := Lib.hid trivial
  have hd' := (decP_iff _ _).1 hd
  have HR := Lib.hid (encX_nb hd'.1).1
  have HE : Hid (encX (nb l) = cs) := Lib.hid ((encX_nb hd'.1).2.trans hd'.2)
  have HLn : Hid (l.length ≤ 16) := Lib.hid (dec_len hd)
  have HG : Hid ((decP cs).getD [] = l) := Lib.hid (by rw [hd]; rfl)
  have HC0 : Hid (codeO (decP cs) = 0) := Lib.hid (by rw [hd]; rfl)
  have F2 : Hid True := Lib.hid trivial
  have G1 : Hid True := Lib.hid trivial
  have K1 : Hid True := Lib.hid trivial
  clear hd'
  have HA := Lib.hid ha
  clear hx hy hz hb hd ha
  go_enter Try.func4, Try.ntmps4
  go_wp2_with (first
    | (go_at_call 8; clear F1; refine (decode_any C k cc cs _ HZ.out HB.out hkc hk).mono ?_; rintro e w1 hp; obtain ⟨A1, c1, rfl, hb1, hm1⟩ := hp.at_; rw [HC0.out]; rw [HG.out] at hm1 ⊢; have M1 := Lib.hid hm1; have B1 := Lib.hid hb1; clear hm1 hb1)
    | (go_at_call 10; clear G1; refine (right_any w1.heap.size A1 l.length c1 (nb l) _ M1.out.reads (by have := HLn.out; omega)).mono ?_; rintro e w' ⟨rfl, hw'⟩; rw [hw', HR.out]; clear hw')
    | (go_at_call 13; clear F2; refine (encode_any A1 l.length c1 (nb l) _ M1.out.reads (by have := HLn.out; omega)).mono ?_; rintro e w2 hp; obtain ⟨A2, c2, rfl, hb2, hm2, hl2⟩ := hp.at_; rw [HE.out] at hm2 hl2 ⊢; have M2 := Lib.hid hm2; have B2 := Lib.hid hb2; have L2 := Lib.hid hl2; clear hm2 hb2 hl2)
    | (go_at_call 12; clear K1; refine (same_b w2.heap.size _ _ _ _ _ _ _ _ _ M2.out.reads (HZ.out.on (after B1.out B2.out)) (by have := L2.out; omega) (by omega)).mono ?_; rintro e w3 ⟨rfl, hb3⟩; rw [eqB_self]; have B3 := Lib.hid hb3; clear hb3)
    | (go_at_call 10; refine (right_any w3.heap.size A n ca xa _ (HX.out.on (after (after B1.out B2.out) B3.out)) hn).mono ?_; rintro e w' ⟨rfl, hw'⟩; rw [hw', HA.out]; clear hw')
    | (go_at_call 18; refine (runs_any _).mono ?_; rintro e wb ⟨rfl, hbb⟩; have Bb := Lib.hid hbb; clear hbb)
    | fail)
  all_goals
    go_ret
    exact ⟨rfl, (after (after (after B1.out B2.out) B3.out) Bb.out)⟩
set_option maxRecDepth 100000 in
set_option maxHeartbeats 3200000 in
theorem backs1 (A B C : Option Addr) (n ca m cb k cc : Nat) (xa xb : List Int) (cs : List Nat) (w : World) (hx : Reads w w.heap.size 1 A n (ks .i64 xa)) (hy : Reads w w.heap.size 1 B m (ks .i64 xb)) (hz : Reads w w.heap.size 1 C k (ks .u8 (nb cs))) (hb : ∀ b ∈ cs, b < 256)
    (hn : n ≤ 9223372036854775807) (hm : m ≤ 9223372036854775807) (hk : k ≤ 9223372036854775807) (hkc : k ≤ cc) (l : List Nat) (hd : decP cs = some l) (ha : rightI xa = true) (hq : rightI xb = false) :
    Calls Try.prog 4 #[.slice A n ca, .slice B m cb, .slice C k cc] w fun e w' => e = .returned (.bool true) ∧ Below w.heap.size w w' := by
  have HX := Lib.hid hx
  have HY := Lib.hid hy
  have HZ := Lib.hid hz
  have HB := Lib.hid hb
  have F1 : Hid True := Lib.hid trivial
  have hd' := (decP_iff _ _).1 hd
  have HR := Lib.hid (encX_nb hd'.1).1
  have HE : Hid (encX (nb l) = cs) := Lib.hid ((encX_nb hd'.1).2.trans hd'.2)
  have HLn : Hid (l.length ≤ 16) := Lib.hid (dec_len hd)
  have HG : Hid ((decP cs).getD [] = l) := Lib.hid (by rw [hd]; rfl)
  have HC0 : Hid (codeO (decP cs) = 0) := Lib.hid (by rw [hd]; rfl)
  have F2 : Hid True := Lib.hid trivial
  have G1 : Hid True := Lib.hid trivial
  have K1 : Hid True := Lib.hid trivial
  clear hd'
  have HA := Lib.hid ha
  have G2 : Hid True := Lib.hid trivial
  have HQ := Lib.hid hq
  clear hq
  clear hx hy hz hb hd ha
  go_enter Try.func4, Try.ntmps4
  go_wp2_with (first
    | (go_at_call 8; clear F1; refine (decode_any C k cc cs _ HZ.out HB.out hkc hk).mono ?_; rintro e w1 hp; obtain ⟨A1, c1, rfl, hb1, hm1⟩ := hp.at_; rw [HC0.out]; rw [HG.out] at hm1 ⊢; have M1 := Lib.hid hm1; have B1 := Lib.hid hb1; clear hm1 hb1)
    | (go_at_call 10; clear G1; refine (right_any w1.heap.size A1 l.length c1 (nb l) _ M1.out.reads (by have := HLn.out; omega)).mono ?_; rintro e w' ⟨rfl, hw'⟩; rw [hw', HR.out]; clear hw')
    | (go_at_call 13; clear F2; refine (encode_any A1 l.length c1 (nb l) _ M1.out.reads (by have := HLn.out; omega)).mono ?_; rintro e w2 hp; obtain ⟨A2, c2, rfl, hb2, hm2, hl2⟩ := hp.at_; rw [HE.out] at hm2 hl2 ⊢; have M2 := Lib.hid hm2; have B2 := Lib.hid hb2; have L2 := Lib.hid hl2; clear hm2 hb2 hl2)
    | (go_at_call 12; clear K1; refine (same_b w2.heap.size _ _ _ _ _ _ _ _ _ M2.out.reads (HZ.out.on (after B1.out B2.out)) (by have := L2.out; omega) (by omega)).mono ?_; rintro e w3 ⟨rfl, hb3⟩; rw [eqB_self]; have B3 := Lib.hid hb3; clear hb3)
    | (go_at_call 10; clear G2; refine (right_any w3.heap.size A n ca xa _ (HX.out.on (after (after B1.out B2.out) B3.out)) hn).mono ?_; rintro e w' ⟨rfl, hw'⟩; rw [hw', HA.out]; clear hw')
    | (go_at_call 10; refine (right_any w3.heap.size B m cb xb _ (HY.out.on (after (after B1.out B2.out) B3.out)) hm).mono ?_; rintro e w' ⟨rfl, hw'⟩; rw [hw', HQ.out]; clear hw')
    | (go_at_call 18; refine (runs_any _).mono ?_; rintro e wb ⟨rfl, hbb⟩; have Bb := Lib.hid hbb; clear hbb)
    | fail)
  all_goals
    go_ret
    exact ⟨rfl, (after (after (after B1.out B2.out) B3.out) Bb.out)⟩
set_option maxRecDepth 100000 in
set_option maxHeartbeats 3200000 in
theorem backs2 (A B C : Option Addr) (n ca m cb k cc : Nat) (xa xb : List Int) (cs : List Nat) (w : World) (hx : Reads w w.heap.size 1 A n (ks .i64 xa)) (hy : Reads w w.heap.size 1 B m (ks .i64 xb)) (hz : Reads w w.heap.size 1 C k (ks .u8 (nb cs))) (hb : ∀ b ∈ cs, b < 256)
    (hn : n ≤ 9223372036854775807) (hm : m ≤ 9223372036854775807) (hk : k ≤ 9223372036854775807) (hkc : k ≤ cc) (l : List Nat) (hd : decP cs = some l) (ha : rightI xa = true) (hq : rightI xb = true) :
    Calls Try.prog 4 #[.slice A n ca, .slice B m cb, .slice C k cc] w fun e w' => e = .returned (.bool true) ∧ Below w.heap.size w w' := by
  have HX := Lib.hid hx
  have HY := Lib.hid hy
  have HZ := Lib.hid hz
  have HB := Lib.hid hb
  have F1 : Hid True := Lib.hid trivial
  have hd' := (decP_iff _ _).1 hd
  have HR := Lib.hid (encX_nb hd'.1).1
  have HE : Hid (encX (nb l) = cs) := Lib.hid ((encX_nb hd'.1).2.trans hd'.2)
  have HLn : Hid (l.length ≤ 16) := Lib.hid (dec_len hd)
  have HG : Hid ((decP cs).getD [] = l) := Lib.hid (by rw [hd]; rfl)
  have HC0 : Hid (codeO (decP cs) = 0) := Lib.hid (by rw [hd]; rfl)
  have F2 : Hid True := Lib.hid trivial
  have G1 : Hid True := Lib.hid trivial
  have K1 : Hid True := Lib.hid trivial
  clear hd'
  have HA := Lib.hid ha
  have G2 : Hid True := Lib.hid trivial
  have HQ := Lib.hid hq
  have HEQ := Lib.hid (enc_eq ha hq)
  obtain ⟨la, hla, hda, hra⟩ := back_of ha
  have HLA := Lib.hid hla
  have HDG : Hid ((decP (encX xa)).getD [] = la) := Lib.hid (by rw [hda]; rfl)
  have HDC : Hid (codeO (decP (encX xa)) = 0) := Lib.hid (by rw [hda]; rfl)
  have HL1 : Hid (la.length ≤ 16) := Lib.hid (dec_len hda)
  have F3 : Hid True := Lib.hid trivial
  have F4 : Hid True := Lib.hid trivial
  have L1 : Hid True := Lib.hid trivial
  generalize hv : eqB xa xb = vb at HEQ
  have HV := Lib.hid hv
  clear hla hda hra hq hv
  clear hx hy hz hb hd ha
  go_enter Try.func4, Try.ntmps4
  go_wp2_with (first
    | (go_at_call 8; clear F1; refine (decode_any C k cc cs _ HZ.out HB.out hkc hk).mono ?_; rintro e w1 hp; obtain ⟨A1, c1, rfl, hb1, hm1⟩ := hp.at_; rw [HC0.out]; rw [HG.out] at hm1 ⊢; have M1 := Lib.hid hm1; have B1 := Lib.hid hb1; clear hm1 hb1)
    | (go_at_call 10; clear G1; refine (right_any w1.heap.size A1 l.length c1 (nb l) _ M1.out.reads (by have := HLn.out; omega)).mono ?_; rintro e w' ⟨rfl, hw'⟩; rw [hw', HR.out]; clear hw')
    | (go_at_call 13; clear F2; refine (encode_any A1 l.length c1 (nb l) _ M1.out.reads (by have := HLn.out; omega)).mono ?_; rintro e w2 hp; obtain ⟨A2, c2, rfl, hb2, hm2, hl2⟩ := hp.at_; rw [HE.out] at hm2 hl2 ⊢; have M2 := Lib.hid hm2; have B2 := Lib.hid hb2; have L2 := Lib.hid hl2; clear hm2 hb2 hl2)
    | (go_at_call 12; clear K1; refine (same_b w2.heap.size _ _ _ _ _ _ _ _ _ M2.out.reads (HZ.out.on (after B1.out B2.out)) (by have := L2.out; omega) (by omega)).mono ?_; rintro e w3 ⟨rfl, hb3⟩; rw [eqB_self]; have B3 := Lib.hid hb3; clear hb3)
    | (go_at_call 10; clear G2; refine (right_any w3.heap.size A n ca xa _ (HX.out.on (after (after B1.out B2.out) B3.out)) hn).mono ?_; rintro e w' ⟨rfl, hw'⟩; rw [hw', HA.out]; clear hw')
    | (go_at_call 10; refine (right_any w3.heap.size B m cb xb _ (HY.out.on (after (after B1.out B2.out) B3.out)) hm).mono ?_; rintro e w' ⟨rfl, hw'⟩; rw [hw', HQ.out]; clear hw')
    | (go_at_call 13; clear F3; refine (encode_any A n ca xa _ (HX.out.on (after (after B1.out B2.out) B3.out)) hn).mono ?_; rintro e w4 hp; obtain ⟨A4, c4, rfl, hb4, hm4, hl4⟩ := hp.at_; have M4 := Lib.hid hm4; have B4 := Lib.hid hb4; have L4 := Lib.hid hl4; have C4 := Lib.hid hm4.cap; clear hm4 hb4 hl4)
    | (go_at_call 8; refine (decode_any A4 _ c4 (encX xa) _ M4.out.reads (encX_byte xa) C4.out (by have := L4.out; omega)).mono ?_; rintro e w5 hp; obtain ⟨A5, c5, rfl, hb5, hm5⟩ := hp.at_; rw [HDC.out]; rw [HDG.out] at hm5 ⊢; have M5 := Lib.hid hm5; have B5 := Lib.hid hb5; clear hm5 hb5)
    | (go_at_call 15; clear L1; refine (same_i w5.heap.size _ _ _ _ _ _ _ _ _ M5.out.reads (HX.out.on (after (after (after (after B1.out B2.out) B3.out) B4.out) B5.out)) (by have := HL1.out; omega) hn).mono ?_; rintro e w6 ⟨rfl, hb6⟩; rw [HLA.out, eqB_self]; have B6 := Lib.hid hb6; clear hb6)
    | (go_at_call 13; clear F4; refine (encode_any A n ca xa _ (HX.out.on (after (after (after (after (after B1.out B2.out) B3.out) B4.out) B5.out) B6.out)) hn).mono ?_; rintro e w7 hp; obtain ⟨A7, c7, rfl, hb7, hm7, hl7⟩ := hp.at_; have M7 := Lib.hid hm7; have B7 := Lib.hid hb7; have L7 := Lib.hid hl7; clear hm7 hb7 hl7)
    | (go_at_call 13; refine (encode_any B m cb xb _ (HY.out.on (after (after (after (after (after (after B1.out B2.out) B3.out) B4.out) B5.out) B6.out) B7.out)) hm).mono ?_; rintro e w8 hp; obtain ⟨A8, c8, rfl, hb8, hm8, hl8⟩ := hp.at_; have M8 := Lib.hid hm8; have B8 := Lib.hid hb8; have L8 := Lib.hid hl8; clear hm8 hb8 hl8)
    | (go_at_call 12; refine (same_b w8.heap.size _ _ _ _ _ _ _ _ _ (M7.out.reads.on B8.out) M8.out.reads (by have := L7.out; omega) (by have := L8.out; omega)).mono ?_; rintro e w9 ⟨rfl, hb9⟩; rw [HEQ.out]; have B9 := Lib.hid hb9; clear hb9)
    | (go_at_call 15; refine (same_i w9.heap.size _ _ _ _ _ _ _ _ _ (HX.out.on (after (after (after (after (after (after (after (after B1.out B2.out) B3.out) B4.out) B5.out) B6.out) B7.out) B8.out) B9.out)) (HY.out.on (after (after (after (after (after (after (after (after B1.out B2.out) B3.out) B4.out) B5.out) B6.out) B7.out) B8.out) B9.out)) hn hm).mono ?_; rintro e wa ⟨rfl, hba⟩; rw [HV.out]; have Ba := Lib.hid hba; clear hba)
    | (go_at_call 18; refine (runs_any _).mono ?_; rintro e wb ⟨rfl, hbb⟩; have Bb := Lib.hid hbb; clear hbb)
    | fail)
  all_goals
    go_ret
    exact ⟨rfl, (after (after (after (after (after (after (after (after (after (after B1.out B2.out) B3.out) B4.out) B5.out) B6.out) B7.out) B8.out) B9.out) Ba.out) Bb.out)⟩
theorem back_any (A B C : Option Addr) (n ca m cb k cc : Nat) (xa xb : List Int) (cs : List Nat) (w : World) (hx : Reads w w.heap.size 1 A n (ks .i64 xa)) (hy : Reads w w.heap.size 1 B m (ks .i64 xb)) (hz : Reads w w.heap.size 1 C k (ks .u8 (nb cs))) (hb : ∀ b ∈ cs, b < 256)
    (hn : n ≤ 9223372036854775807) (hm : m ≤ 9223372036854775807) (hk : k ≤ 9223372036854775807) (hkc : k ≤ cc) :
    Calls Try.prog 4 #[.slice A n ca, .slice B m cb, .slice C k cc] w fun e w' => e = .returned (.bool true) ∧ Below w.heap.size w w' := by
  cases hd : decP cs with
  | none =>
    cases ha : rightI xa with
    | false => exact backn0 A B C n ca m cb k cc xa xb cs w hx hy hz hb hn hm hk hkc hd ha
    | true => cases hq : rightI xb with
      | false => exact backn1 A B C n ca m cb k cc xa xb cs w hx hy hz hb hn hm hk hkc hd ha hq
      | true => exact backn2 A B C n ca m cb k cc xa xb cs w hx hy hz hb hn hm hk hkc hd ha hq
  | some l =>
    cases ha : rightI xa with
    | false => exact backs0 A B C n ca m cb k cc xa xb cs w hx hy hz hb hn hm hk hkc l hd ha
    | true => cases hq : rightI xb with
      | false => exact backs1 A B C n ca m cb k cc xa xb cs w hx hy hz hb hn hm hk hkc l hd ha hq
      | true => exact backs2 A B C n ca m cb k cc xa xb cs w hx hy hz hb hn hm hk hkc l hd ha hq
theorem u8_nat : ∀ {ys : List Int}, (∀ z ∈ ys, (Lit.int .u8 z).wf = true) → ys = nb (ys.map Int.toNat) ∧ ∀ b ∈ ys.map Int.toNat, b < 256
  | [], _ => ⟨rfl, by simp⟩
  | y :: r, h => by
    have h1 := h y List.mem_cons_self
    have h2 := u8_nat (ys := r) fun z hz => h z (List.mem_cons_of_mem _ hz)
    have h3 : 0 ≤ y ∧ y < 256 := by
      have h4 : IntKind.u8.min ≤ y ∧ y ≤ IntKind.u8.max := by simpa [Lit.wf] using h1
      have e1 : IntKind.u8.min = 0 := rfl
      have e2 : IntKind.u8.max = 255 := rfl
      omega
    refine ⟨?_, fun b hb => ?_⟩
    · simp only [List.map_cons, nb]
      rw [Int.toNat_of_nonneg h3.1]
      congr 1
      exact h2.1
    · rw [List.map_cons] at hb
      rcases List.mem_cons.1 hb with hb | hb
      · omega
      · exact h2.2 b hb
theorem tells_arg (A B : Option Addr) (n c m d : Nat) (xs ys : List Int) (w : World) (hx : Reads w w.heap.size 1 A n (xs.map (Value.int .i64))) (hy : Reads w w.heap.size 1 B m (ys.map (Value.int .u8))) (hb : ∀ z ∈ ys, (Lit.int .u8 z).wf = true) (hc : n ≤ c) (hd : m ≤ d) :
    Calls Try.prog 3 #[.slice A n c, .slice B m d] w fun e w' => e = .returned (.bool true) ∧ Below w.heap.size w w' := by
  obtain ⟨h1, h2⟩ := u8_nat hb
  exact tells_any A B n c m d xs (ys.map Int.toNat) w hx (by rw [← h1]; exact hy) h2 hc hd
theorem back_arg (A B C : Option Addr) (n ca m cb k cc : Nat) (xa xb ys : List Int) (w : World) (hx : Reads w w.heap.size 1 A n (xa.map (Value.int .i64))) (hy : Reads w w.heap.size 1 B m (xb.map (Value.int .i64))) (hz : Reads w w.heap.size 1 C k (ys.map (Value.int .u8))) (hb : ∀ z ∈ ys, (Lit.int .u8 z).wf = true)
    (ha : n ≤ ca) (ha9 : ca ≤ maxLen) (hb' : m ≤ cb) (hb9 : cb ≤ maxLen) (hc' : k ≤ cc) (hc9 : cc ≤ maxLen) :
    Calls Try.prog 4 #[.slice A n ca, .slice B m cb, .slice C k cc] w fun e w' => e = .returned (.bool true) ∧ Below w.heap.size w w' := by
  obtain ⟨h1, h2⟩ := u8_nat hb
  unfold maxLen at ha9 hb9 hc9
  exact back_any A B C n ca m cb k cc xa xb (ys.map Int.toNat) w hx hy (by rw [← h1]; exact hz) h2 (by omega) (by omega) (by omega) hc'
end Go.Proofs.Ytoinanbpiemfoaa
