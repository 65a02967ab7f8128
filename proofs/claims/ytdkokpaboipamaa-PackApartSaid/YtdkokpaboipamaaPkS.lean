/-
  PackApart: two texts of one length have the same words just if they are the same; a longer text's words begin as the shorter one's; condition: what fits an int.
-/
import Derived.Test.YtdkokpaboipamaaPkR
import Derived.Test.YtdkokpaboipamaaRuns
import Derived.Deep.RegionHeld3
import Derived.Lib.Hide
namespace Go.Proofs.Ytdkokpaboipamaa
open Go.RowKit Go.WideShapes Go.ChangeShapes
set_option linter.all false
theorem words_si (s : ByteArray) (c : Nat) (hc : cnt s.size = c) (hs : s.size ≤ 1000) (w : World) : Calls Try.prog 13 #[.string s] w fun e w' => ∃ g, e = .returned (.slice (some ⟨g, 0, none⟩) c c) ∧ Reads w' w'.heap.size 1 (some ⟨g, 0, none⟩) c (u64s (ws s)) ∧ Below w.heap.size w w' :=
  (pwords_any s w hs).mono fun e w' ⟨he, ho, hb⟩ => by
    subst hc
    exact ⟨_, he, (own_wb ho).whole (ws_len s), hb⟩
theorem Reads.tk {w : World} {B n k : Nat} {A : Option Addr} {xs : List Int} (h : Reads w B 1 A n (u64s xs)) (hk : k ≤ n) : Reads w B 1 A k (u64s (xs.take k)) := by
  have hl := h.u64
  refine ⟨by rw [u64s_len, List.length_take]; omega, fun hk0 => ?_⟩
  obtain ⟨ad, e, hb, hc⟩ := h.2 (by omega)
  refine ⟨ad, e, hb, fun j u hu => hc j u ?_⟩
  unfold u64s at hu ⊢
  rw [List.getElem?_map, List.getElem?_take] at hu
  split at hu
  · rw [List.getElem?_map]; exact hu
  · cases hu
set_option maxRecDepth 100000 in
set_option maxHeartbeats 3200000 in
theorem apart_any (s t : ByteArray) (w : World) (hs : s.size ≤ maxLen) (ht : t.size ≤ maxLen) : Calls Try.prog 5 #[.string s, .string t] w fun e w' => e = .returned (.bool true) ∧ Below w.heap.size w w' := by
  obtain ⟨m, r1, m1, m2⟩ : ∃ m : Nat, (if t.size < s.size then (t.size : Int) else (s.size : Int)) = (m : Int) ∧ m ≤ s.size ∧ m ≤ t.size := by
    by_cases h : t.size < s.size
    · exact ⟨t.size, by rw [if_pos h], by omega, Nat.le_refl _⟩
    · exact ⟨s.size, by rw [if_neg h], Nat.le_refl _, by omega⟩
  obtain ⟨n, r2, n1, n2⟩ : ∃ n : Nat, (if (200 : Int) < (m : Int) then (200 : Int) else (m : Int)) = (n : Int) ∧ n ≤ m ∧ n ≤ 200 := by
    by_cases h : (200 : Int) < (m : Int)
    · exact ⟨200, by rw [if_pos h]; rfl, by omega, Nat.le_refl _⟩
    · exact ⟨m, by rw [if_neg h], Nat.le_refl _, by omega⟩
  obtain ⟨p, r3, p1, p2⟩ : ∃ p : Nat, (if (40 : Int) < (t.size : Int) then (40 : Int) else (t.size : Int)) = (p : Int) ∧ p ≤ t.size ∧ p ≤ 40 := by
    by_cases h : (40 : Int) < (t.size : Int)
    · exact ⟨40, by rw [if_pos h]; rfl, by omega, Nat.le_refl _⟩
    · exact ⟨t.size, by rw [if_neg h], Nat.le_refl _, by omega⟩
  have s1 : (n : Int) ≤ (s.size : Int) := by omega
  have s2 : (n : Int) ≤ (t.size : Int) := by omega
  have s3 : (p : Int) ≤ (t.size : Int) := by omega
  have HSA : Hid ((s.extract 0 n).size = n) := Lib.hid (by rw [ByteArray.size_extract]; omega)
  have HSB : Hid ((t.extract 0 n).size = n) := Lib.hid (by rw [ByteArray.size_extract]; omega)
  have HSP : Hid ((t.extract 0 p).size = p) := Lib.hid (by rw [ByteArray.size_extract]; omega)
  go_enter Try.func5, Try.ntmps5
  go_wp2
  go_region_held3 (fun _ => True) (exact trivial) (fail)
  all_goals
    obtain ⟨a, ha⟩ : ∃ a, a = s.extract 0 n := ⟨_, rfl⟩
    obtain ⟨b, hb⟩ : ∃ b, b = t.extract 0 n := ⟨_, rfl⟩
    obtain ⟨q, hq⟩ : ∃ q, q = t.extract 0 p := ⟨_, rfl⟩
    have HQ := Lib.hid hq
    rw [← ha] at HSA ⊢
    rw [← hb] at HSB ⊢
    rw [← hq] at HSP
    have HZ : Hid ((a ++ q).size = n + p) := Lib.hid (by rw [ByteArray.size_append, HSA.out, HSP.out])
    obtain ⟨k, hk⟩ : ∃ k, k = n / 8 := ⟨_, rfl⟩
    obtain ⟨cx, hcx⟩ : ∃ cx, cx = cnt n := ⟨_, rfl⟩
    obtain ⟨cz, hcz⟩ : ∃ cz, cz = cnt (n + p) := ⟨_, rfl⟩
    have q1 : (n : Int) / 8 = (k : Int) := by omega
    have q2 : (n : Int).tdiv 8 = (k : Int) := by rw [Int.tdiv_eq_ediv_of_nonneg (by omega)]; exact q1
    have c1 : cx ≤ cz := by rw [hcx, hcz]; unfold cnt; omega
    have c2 : k ≤ cx := by rw [hcx, hk]; unfold cnt; omega
    have c9 : cz ≤ 200 := by rw [hcz]; unfold cnt; omega
    have r5 : (if cz < k then (cz : Int) else (k : Int)) = (k : Int) := by rw [if_neg (by omega)]
    have r6 : (if cx < k then (cx : Int) else (k : Int)) = (k : Int) := by rw [if_neg (by omega)]
    have c3 : (k : Int) ≤ (cx : Int) := by omega
    have c4 : (k : Int) ≤ (cz : Int) := by omega
    have c5 : (cx : Int) ≤ (cz : Int) := by omega
    have c6 : k ≤ cz := by omega
    have HCX : Hid (cnt a.size = cx) := Lib.hid (by rw [HSA.out, hcx])
    have HCY : Hid (cnt b.size = cx) := Lib.hid (by rw [HSB.out, hcx])
    have HCZ : Hid (cnt (a ++ q).size = cz) := Lib.hid (by rw [HZ.out, hcz])
    have HTK : Hid ((ws (a ++ q)).take k = (ws a).take k) := Lib.hid (by
      refine ws_take (by rw [HSA.out]; omega) (by rw [HZ.out]; omega) (fun i h1 h2 h3 => app_get h2 h1))
    have HINJ : Hid (ws a = ws b → a = b) := Lib.hid (fun h => ws_inj (HSA.out.trans HSB.out.symm) h)
    have HLA : Hid (a.size ≤ 1000 ∧ b.size ≤ 1000 ∧ (a ++ q).size ≤ 1000) := Lib.hid ⟨by rw [HSA.out]; omega, by rw [HSB.out]; omega, by rw [HZ.out]; omega⟩
    have hlim : ¬ 9223372036854775807 < a.size + q.size := by rw [HSA.out, HSP.out]; omega
    have hex : ∀ x : Nat, x = p → t.extract 0 x = q := fun x e => by rw [e]; exact HQ.out.symm
    have hex' := hex p rfl
    clear hex ha hb hq hk hcx hcz
    have F1 : Hid True := Lib.hid trivial
    have F2 : Hid True := Lib.hid trivial
    go_wp2
    go_region_held3 (fun _ => True) (exact trivial)
      (first
        | (go_at_call 13; clear F1; refine (words_si a cx HCX.out HLA.out.1 _).mono ?_
           rintro e w1 ⟨g1, rfl, hr1, hb1⟩
           have HX := Lib.hid hr1
           have HB := Lib.hid (after ((Below.refl w.heap.size w).drew.drew) hb1)
           clear hr1 hb1)
        | (go_at_call 13; clear F2; refine (words_si b cx HCY.out HLA.out.2.1 _).mono ?_
           rintro e w2 ⟨g2, rfl, hr2, hb2⟩
           have HY := Lib.hid hr2
           replace HX := Lib.hid (HX.out.on hb2)
           replace HB := Lib.hid (after HB.out hb2)
           clear hr2 hb2)
        | (go_at_call 13; refine (words_si (a ++ q) cz HCZ.out HLA.out.2.2 _).mono ?_
           rintro e w3 ⟨g3, rfl, hr3, hb3⟩
           have HZZ := Lib.hid hr3
           replace HX := Lib.hid (HX.out.on hb3)
           replace HY := Lib.hid (HY.out.on hb3)
           replace HB := Lib.hid (after HB.out hb3)
           clear hr3 hb3))
    all_goals
      go_wp2
      replace HX : Hid (Reads w3.drew w3.drew.heap.size 1 (some ⟨g1, 0, none⟩) cx (u64s (ws a))) := Lib.hid (HX.out.on ((Below.refl _ _).drew))
      replace HY : Hid (Reads w3.drew w3.drew.heap.size 1 (some ⟨g2, 0, none⟩) cx (u64s (ws b))) := Lib.hid (HY.out.on ((Below.refl _ _).drew))
      replace HZZ : Hid (Reads w3.drew w3.drew.heap.size 1 (some ⟨g3, 0, none⟩) cz (u64s (ws (a ++ q)))) := Lib.hid (HZZ.out.on ((Below.refl _ _).drew))
      replace HB := Lib.hid HB.out.drew
      clear hs ht r1 m1 m2 r2 n1 n2 r3 p1 p2 s1 s2 s3 hlim hex' q1 q2 HLA HCX HCY HCZ HSA HSB HSP HQ HZ
      by_cases hab : a = b
      · have HE : Hid (ws a = ws b) := Lib.hid (by rw [hab])
        have e2 : (a.toList == b.toList) = true := by subst hab; exact beq_self_eq_true _
        have HAB := Lib.hid hab
        have G1 : Hid True := Lib.hid trivial
        go_region_held3 (fun _ => True) (exact trivial)
          (first
            | (go_at_call 12; clear G1; refine (same_any _ _ _ _ _ _ _ (ws a) (ws b) _ HX.out HY.out (by omega) (by omega)).mono ?_
               rintro e w4 ⟨rfl, hb4⟩
               rw [eqB_true HE.out]
               replace HX := Lib.hid (HX.out.on hb4)
               replace HZZ := Lib.hid (HZZ.out.on hb4)
               replace HB := Lib.hid (after HB.out hb4)
               clear hb4)
            | (go_at_call 12; refine (same_any _ _ _ _ _ _ _ ((ws (a ++ q)).take k) ((ws a).take k) _ (HZZ.out.tk c6) (HX.out.tk c2) (by omega) (by omega)).mono ?_
               rintro e w5 ⟨rfl, hb5⟩
               rw [eqB_true HTK.out]
               replace HB := Lib.hid (after HB.out hb5)
               clear hb5)
            | (go_at_call 17; refine (packRuns_any _).mono ?_
               rintro e w6 ⟨rfl, hb6⟩
               replace HB := Lib.hid (after HB.out hb6)
               clear hb6))
        all_goals
          go_wp2
          go_ret
          exact ⟨rfl, HB.out⟩
      · have HE : Hid (ws a ≠ ws b) := Lib.hid (fun h => hab (HINJ.out h))
        have e2 : (a.toList == b.toList) = false := by
          have : ¬ a.toList = b.toList := fun h => hab (ByteArray.ext (Array.ext' (by rw [ByteArray.toList_eq, ByteArray.toList_eq] at h; exact h)))
          simpa using this
        have HAB := Lib.hid hab
        have G1 : Hid True := Lib.hid trivial
        go_region_held3 (fun _ => True) (exact trivial)
          (first
            | (go_at_call 12; clear G1; refine (same_any _ _ _ _ _ _ _ (ws a) (ws b) _ HX.out HY.out (by omega) (by omega)).mono ?_
               rintro e w4 ⟨rfl, hb4⟩
               rw [eqB_false HE.out]
               replace HX := Lib.hid (HX.out.on hb4)
               replace HZZ := Lib.hid (HZZ.out.on hb4)
               replace HB := Lib.hid (after HB.out hb4)
               clear hb4)
            | (go_at_call 12; refine (same_any _ _ _ _ _ _ _ ((ws (a ++ q)).take k) ((ws a).take k) _ (HZZ.out.tk c6) (HX.out.tk c2) (by omega) (by omega)).mono ?_
               rintro e w5 ⟨rfl, hb5⟩
               rw [eqB_true HTK.out]
               replace HB := Lib.hid (after HB.out hb5)
               clear hb5)
            | (go_at_call 17; refine (packRuns_any _).mono ?_
               rintro e w6 ⟨rfl, hb6⟩
               replace HB := Lib.hid (after HB.out hb6)
               clear hb6))
        all_goals
          go_wp2
          go_ret
          exact ⟨rfl, HB.out⟩
end Go.Proofs.Ytdkokpaboipamaa
