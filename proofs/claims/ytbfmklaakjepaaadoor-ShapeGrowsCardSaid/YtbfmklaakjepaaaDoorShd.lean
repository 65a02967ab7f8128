/-
  The law ShapeGrows at any entries, any marks: the walk; no condition.
-/
import Derived.Test.YtbfmklaakjepaaaDoorShc
namespace Go.Proofs.YtbfmklaakjepaaaDoor
open Go.RowKit Go.WideShapes Go.ChangeShapes
set_option linter.all false
theorem afterW {a w w' : World} (h : Below a.heap.size a w) (hb : Below w.heap.size w w') : Below a.heap.size a w' := h.trans (hb.mono h.size)
theorem bools_get {w : World} {B n : Nat} {A : Option Addr} {xs : List Bool} (h : Reads w B 1 A n (xs.map Value.bool)) {k : Nat} (hk : k < n) : ∃ ad, A = some ad ∧ ad.block < B ∧ w.cell? (ad.add k) = some (.bool (xs[k]?.getD false)) := by
  obtain ⟨ad, u, rfl, hb, hu, hc⟩ := h.at_ hk
  refine ⟨ad, rfl, hb, ?_⟩
  rw [hc, ← hu, List.getElem?_map]
  rw [List.getElem?_map] at hu
  cases hx : xs[k]? with
  | none => rw [hx] at hu; cases hu
  | some b => rfl
set_option maxRecDepth 100000 in
set_option maxHeartbeats 6400000 in
theorem grows_any (A0 : Option Addr) (n0 c0 : Nat) (es : List En) (A1 : Option Addr) (n1 c1 : Nat) (bs : List Bool) (w : World) (hx : Reads w w.heap.size 2 A0 n0 (rowE es)) (hT : Texts es) (hy : Reads w w.heap.size 1 A1 n1 (bs.map Value.bool)) :
    Calls Tryd.prog 6 #[.slice A0 n0 c0, .slice A1 n1 c1] w fun e w' => e = .returned (.bool true) ∧ Below w.heap.size w w' := by
  have HXS := Lib.hid hx
  have HYS := Lib.hid hy
  have HT := Lib.hid hT
  clear hx hy hT
  go_enter Tryd.func6, Tryd.ntmps6
  go_wp2
  go_loopw [5, 6, 7] (fun o m i wr => ∃ (q : Nat) (A : Option Addr) (n c : Nat) (L : List En), o = .slice A n c ∧ m = .int .i64 n ∧ i = .int .i64 q ∧ q ≤ 50 ∧ n ≤ q ∧ Hid (OKE L ∧ Reads wr wr.heap.size 2 A n (rowE L) ∧ n ≤ c ∧ c ≤ maxLen ∧ (A = none → c = 0) ∧ Below w.heap.size w wr)) (fun _ _ i _ => 50 - (intOf i).toNat)
  case atStart => exact ⟨0, none, 0, 0, [], rfl, rfl, rfl, by omega, by omega, Lib.hid ⟨fun i hi => absurd hi (by simp), ⟨rfl, fun h => absurd h (by omega)⟩, Nat.le_refl _, Nat.zero_le _, fun _ => rfl, Below.refl _ _⟩⟩
  case round =>
    rename World => wo
    obtain ⟨q, A, n, c, L, rfl, rfl, rfl, hq, hnq, HI⟩ := hrel
    by_cases hin : q < n0 ∧ q < 50
    · obtain ⟨hq0, hq5⟩ := hin
      have HOK : Hid (OKE L) := Lib.hid HI.out.1
      have HO : Hid (Reads wo wo.heap.size 2 A n (rowE L)) := Lib.hid HI.out.2.1
      have HLN : Hid (L.length = n) := Lib.hid (ents_len HO.out)
      have hnc := HI.out.2.2.1
      have HZ := Lib.hid HI.out.2.2.2.2.1
      have HB := Lib.hid HI.out.2.2.2.2.2
      obtain ⟨ad, rfl, hb, h0, h1⟩ := ents_get HXS.out hq0
      have g0 := (HB.out.cell (p := ad.add (q * 2)) (by rw [block_of_add]; exact hb)).trans h0
      have g1 := (HB.out.cell (p := ⟨(ad.add (q * 2)).block, (ad.add (q * 2)).off + 1, none⟩) (by show (ad.add (q * 2)).block < _; rw [block_of_add]; exact hb)).trans h1
      obtain ⟨x, hxx⟩ : ∃ x, x = (es.getD q d0).1 := ⟨_, rfl⟩
      obtain ⟨v, hvv⟩ : ∃ v, v = (es.getD q d0).2 := ⟨_, rfl⟩
      rw [← hxx] at g0
      rw [← hvv] at g1
      have hx9 : x.size ≤ 9223372036854775807 := by rw [hxx]; exact Nat.le_trans (HT.out.get q) (by decide)
      clear hxx hvv h0 h1 hb
      cases hr : rightL x.data.toList with
      | false =>
        go_wp2_with (first
          | (go_at_call 17; have h17 := rightTerm_any x hx9; rw [hr] at h17; refine (h17 _).mono ?_; rintro e w' ⟨rfl, hw'⟩; replace hw' := hw'.symm; subst hw')
          | fail)
        go_roundw
        case rel => exact ⟨q + 1, A, n, c, L, rfl, rfl, by go_num, by omega, by omega, HI⟩
        case measure => simp only [intOf]; omega
      | true =>
        by_cases hv0 : v < 0
        · go_wp2_with (first
            | (go_at_call 17; have h17 := rightTerm_any x hx9; rw [hr] at h17; refine (h17 _).mono ?_; rintro e w' ⟨rfl, hw'⟩; replace hw' := hw'.symm; subst hw')
            | fail)
          go_roundw
          case rel => exact ⟨q + 1, A, n, c, L, rfl, rfl, by go_num, by omega, by omega, HI⟩
          case measure => simp only [intOf]; omega
        · by_cases hv1 : 1099511627776 < v
          · go_wp2_with (first
              | (go_at_call 17; have h17 := rightTerm_any x hx9; rw [hr] at h17; refine (h17 _).mono ?_; rintro e w' ⟨rfl, hw'⟩; replace hw' := hw'.symm; subst hw')
              | fail)
            go_roundw
            case rel => exact ⟨q + 1, A, n, c, L, rfl, rfl, by go_num, by omega, by omega, HI⟩
            case measure => simp only [intOf]; omega
          · have HOX : Hid (okOne (x, v)) := Lib.hid ⟨hr, by show 0 ≤ v; omega, by show v ≤ 1099511627776; omega⟩
            go_wp2_with (first
              | (go_at_call 17; have h17 := rightTerm_any x hx9; rw [hr] at h17; refine (h17 _).mono ?_; rintro e w' ⟨rfl, hw'⟩; replace hw' := hw'.symm; subst hw')
              | fail)
            go_loopw [8, 53] (fun a j w1 => ∃ k : Nat, a = .int .i64 (atK x L k) ∧ j = .int .i64 k ∧ k ≤ n ∧ w1.heap = wo.heap ∧ Hid (Below w.heap.size w w1)) (fun _ j _ => n - (intOf j).toNat)
            case atStart => exact ⟨0, by rw [atK_0], rfl, Nat.zero_le _, rfl, HB⟩
            case round =>
              rename World => wi
              obtain ⟨k, rfl, rfl, hk, hhp, HB1⟩ := hrel
              have hc : ∀ p : Addr, wi.cell? p = wo.cell? p := fun p => by simp [World.cell?, hhp]
              rw [← hc] at g0 g1
              have HHP := Lib.hid hhp
              have HO1 : Hid (Reads wi wi.heap.size 2 A n (rowE L)) := Lib.hid (by rw [hhp]; exact HO.out.keep (fun p _ => hc p))
              clear hhp hc HO
              by_cases hlt : k < n
              · obtain ⟨ao, rfl, hbo, e0, _⟩ := ents_get HO1.out hlt
                obtain ⟨y, hyy⟩ : ∃ y, y = (L.getD k d0).1 := ⟨_, rfl⟩
                have HAT : Hid (decide ((L.getD k d0).1 = x) = (thereN x L && decide (k = seekN x L))) := Lib.hid (at_is HOK.out (by rw [HLN.out]; exact hlt))
                rw [← hyy] at e0 HAT
                clear hyy hbo
                have HBD : Hid (Below w.heap.size w wi.drew) := Lib.hid HB1.out.drew
                by_cases hyx : y = x
                · have hsx : (y.toList == x.toList) = true := by rw [hyx]; exact beq_self x
                  have HK1 : Hid (atK x L (k + 1) = (k : Int)) := Lib.hid (by
                    have h := HAT.out
                    rw [decide_eq_true hyx] at h
                    have h2 := Bool.and_eq_true_iff.1 h.symm
                    exact atK_hit h2.1 (of_decide_eq_true h2.2))
                  clear hyx
                  go_wp2
                  go_big_region
                  all_goals
                    go_wp2
                    go_roundw
                    case rel => exact ⟨k + 1, by rw [HK1.out], by go_num, by omega, HHP.out, HBD⟩
                    case measure => simp only [intOf]; omega
                · have hsx : (y.toList == x.toList) = false := by
                    cases h : y.toList == x.toList with
                    | false => rfl
                    | true => exact absurd (toList_inj (by simpa using h)) hyx
                  have HK1 : Hid (atK x L (k + 1) = atK x L k) := Lib.hid (by
                    have h := HAT.out
                    rw [decide_eq_false hyx] at h
                    exact atK_miss h.symm)
                  clear hyx
                  go_wp2
                  go_big_region
                  all_goals
                    go_wp2
                    go_roundw
                    case rel => exact ⟨k + 1, by rw [HK1.out], by go_num, by omega, HHP.out, HBD⟩
                    case measure => simp only [intOf]; omega
              · obtain rfl : n = k := by omega
                by_cases hq1 : q < n1
                · obtain ⟨bd, rfl, hbb, hbc⟩ := bools_get HYS.out hq1
                  have gb := (HB1.out.cell (p := bd.add q) (by rw [block_of_add]; exact hbb)).trans hbc
                  obtain ⟨b, hbq⟩ : ∃ b, b = bs[q]?.getD false := ⟨_, rfl⟩
                  rw [← hbq] at gb
                  clear hbq hbc hbb
                  cases b with
                  | true =>
                    cases hth : thereN x L with
                    | true =>
                      as_aux_lemma =>
                        obtain ⟨hs0, _⟩ := there_lt hth
                        rw [HLN.out] at hs0
                        obtain ⟨s, hss⟩ : ∃ s, s = seekN x L := ⟨_, rfl⟩
                        rw [← hss] at hs0
                        have HS := Lib.hid hss
                        obtain ⟨ao, hAo, hbo, _, e1⟩ := ents_get HO1.out hs0
                        subst hAo
                        obtain ⟨u, huu⟩ : ∃ u, u = (L.getD s d0).2 := ⟨_, rfl⟩
                        rw [← huu] at e1
                        have HWA : Hid (wasN x L = u) := Lib.hid (by unfold wasN; rw [hth, if_pos rfl, ← hss, huu])
                        have hat : atK x L n = (s : Int) := by rw [← HLN.out, atK_yes hth, hss]
                        rw [hat]
                        obtain ⟨j, rfl⟩ : ∃ j, n = j + 1 := ⟨n - 1, by omega⟩
                        have hsI : (0 : Int) ≤ (s : Int) := by omega
                        have hsN : ((s : Int) < 0) = False := eq_false (by omega)
                        have hsJ : (s : Int) < ((j + 1 : Nat) : Int) := by omega
                        have hsG : (((j + 1 : Nat) : Int) ≤ (s : Int)) = False := eq_false (by omega)
                        have hsH : (j + 1 ≤ s) = False := eq_false (by omega)
                        have hsK : ((j : Int) + 1 ≤ (s : Int)) = False := eq_false (by omega)
                        have HUU : Hid ((u == u) = true) := Lib.hid (by simp)
                        have huq := HUU.out
                        clear hss huu hat
                        have HTH := Lib.hid hth
                        have HOK5 : Hid (OKE (dropE x L)) := Lib.hid (drop_ok HOK.out)
                        have HOKB : Hid (okB (dropE x L) = true) := Lib.hid (okB_true HOK5.out)
                        have HTX : Hid (Texts (dropE x L)) := Lib.hid (ok_texts HOK5.out)
                        have HN5 : Hid ((dropE x L).length = j) := Lib.hid (by rw [drop_len, hth, HLN.out]; rfl)
                        have F1 : Hid True := trivial
                        clear hth
                        go_wp2_with (first
                          | (go_at_call 10; clear F1; refine (drop_any _ _ _ L x _ HO1.out (by omega) hnc HZ.out).mono ?_; rintro e w5 ⟨A5, n5, c5, rfl, hr5, hc5, hm5, hz5, hb5⟩; rw [HTH.out, HWA.out]; obtain rfl : n5 = j := (ents_len hr5).symm.trans HN5.out; replace e1 := (hb5.cell (p := ⟨(ao.add (s * 2)).block, (ao.add (s * 2)).off + 1, none⟩) (by show (ao.add (s * 2)).block < _; rw [block_of_add]; exact hbo)).trans e1; replace g0 := (hb5.cell (World.block_lt_of_cell? _ _ g0)).trans g0; replace g1 := (hb5.cell (World.block_lt_of_cell? _ _ g1)).trans g1; have H5 := Lib.hid hr5; have HB5 := Lib.hid (afterW HB1.out hb5); have HM5 := Lib.hid hm5; have HZ5 := Lib.hid hz5; clear hr5 hm5 hz5 hb5; have F7 : Hid True := trivial)
                          | (go_at_call 14; clear F7; refine (rightE_any _ _ _ _ _ H5.out (by omega)).mono ?_; rintro e w7 ⟨rfl, hb7⟩; rw [HOKB.out]; replace H5 := Lib.hid (onR H5.out hb7); replace HB5 := Lib.hid (afterW HB5.out hb7); clear hb7; have F8 : Hid True := trivial)
                          | (go_at_call 15; clear F8; refine (rightL_any _ _ _ _ _ H5.out HTX.out (by omega)).mono ?_; rintro e w8 ⟨rfl, hb8⟩; rw [HOKB.out]; replace H5 := Lib.hid (onR H5.out hb8); replace HB5 := Lib.hid (afterW HB5.out hb8); clear hb8)
                          | fail)
                        go_roundw
                        case rel => exact ⟨q + 1, A5, _, c5, (dropE x L), rfl, by first | rfl | go_num, by go_num, by omega, by omega, Lib.hid ⟨HOK5.out, H5.out, hc5, HM5.out, HZ5.out, HB5.out⟩⟩
                        case measure => simp only [intOf]; omega
                    | false =>
                      as_aux_lemma =>
                        have HWA : Hid (wasN x L = 0) := Lib.hid (by unfold wasN; rw [hth, if_neg (by decide)])
                        rw [atK_no hth]
                        have HTH := Lib.hid hth
                        have HOK5 : Hid (OKE (dropE x L)) := Lib.hid (drop_ok HOK.out)
                        have HOKB : Hid (okB (dropE x L) = true) := Lib.hid (okB_true HOK5.out)
                        have HTX : Hid (Texts (dropE x L)) := Lib.hid (ok_texts HOK5.out)
                        have HN5 : Hid ((dropE x L).length = n) := Lib.hid (by rw [drop_len, hth, HLN.out]; rfl)
                        have F1 : Hid True := trivial
                        clear hth
                        go_wp2_with (first
                          | (go_at_call 10; clear F1; refine (drop_any _ _ _ L x _ HO1.out (by omega) hnc HZ.out).mono ?_; rintro e w5 ⟨A5, n5, c5, rfl, hr5, hc5, hm5, hz5, hb5⟩; rw [HTH.out, HWA.out]; obtain rfl : n5 = n := (ents_len hr5).symm.trans HN5.out; replace g0 := (hb5.cell (World.block_lt_of_cell? _ _ g0)).trans g0; replace g1 := (hb5.cell (World.block_lt_of_cell? _ _ g1)).trans g1; have H5 := Lib.hid hr5; have HB5 := Lib.hid (afterW HB1.out hb5); have HM5 := Lib.hid hm5; have HZ5 := Lib.hid hz5; clear hr5 hm5 hz5 hb5; have F7 : Hid True := trivial)
                          | (go_at_call 14; clear F7; refine (rightE_any _ _ _ _ _ H5.out (by omega)).mono ?_; rintro e w7 ⟨rfl, hb7⟩; rw [HOKB.out]; replace H5 := Lib.hid (onR H5.out hb7); replace HB5 := Lib.hid (afterW HB5.out hb7); clear hb7; have F8 : Hid True := trivial)
                          | (go_at_call 15; clear F8; refine (rightL_any _ _ _ _ _ H5.out HTX.out (by omega)).mono ?_; rintro e w8 ⟨rfl, hb8⟩; rw [HOKB.out]; replace H5 := Lib.hid (onR H5.out hb8); replace HB5 := Lib.hid (afterW HB5.out hb8); clear hb8)
                          | fail)
                        go_roundw
                        case rel => exact ⟨q + 1, A5, _, c5, (dropE x L), rfl, by first | rfl | go_num, by go_num, by omega, by omega, Lib.hid ⟨HOK5.out, H5.out, hc5, HM5.out, HZ5.out, HB5.out⟩⟩
                        case measure => simp only [intOf]; omega
                  | false =>
                    cases hth : thereN x L with
                    | true =>
                      as_aux_lemma =>
                        obtain ⟨hs0, _⟩ := there_lt hth
                        rw [HLN.out] at hs0
                        obtain ⟨s, hss⟩ : ∃ s, s = seekN x L := ⟨_, rfl⟩
                        rw [← hss] at hs0
                        have HS := Lib.hid hss
                        obtain ⟨ao, hAo, hbo, _, e1⟩ := ents_get HO1.out hs0
                        subst hAo
                        obtain ⟨u, huu⟩ : ∃ u, u = (L.getD s d0).2 := ⟨_, rfl⟩
                        rw [← huu] at e1
                        have HWA : Hid (wasN x L = u) := Lib.hid (by unfold wasN; rw [hth, if_pos rfl, ← hss, huu])
                        have hat : atK x L n = (s : Int) := by rw [← HLN.out, atK_yes hth, hss]
                        rw [hat]
                        obtain ⟨j, rfl⟩ : ∃ j, n = j + 1 := ⟨n - 1, by omega⟩
                        have hsI : (0 : Int) ≤ (s : Int) := by omega
                        have hsN : ((s : Int) < 0) = False := eq_false (by omega)
                        have hsJ : (s : Int) < ((j + 1 : Nat) : Int) := by omega
                        have hsG : (((j + 1 : Nat) : Int) ≤ (s : Int)) = False := eq_false (by omega)
                        have hsH : (j + 1 ≤ s) = False := eq_false (by omega)
                        have hsK : ((j : Int) + 1 ≤ (s : Int)) = False := eq_false (by omega)
                        have HUU : Hid ((u == u) = true) := Lib.hid (by simp)
                        have huq := HUU.out
                        clear hss huu hat
                        have HTH := Lib.hid hth
                        have HOK5 : Hid (OKE (putE x v L)) := Lib.hid (put_ok HOK.out HOX.out)
                        have HOKB : Hid (okB (putE x v L) = true) := Lib.hid (okB_true HOK5.out)
                        have HTX : Hid (Texts (putE x v L)) := Lib.hid (ok_texts HOK5.out)
                        have HN5 : Hid ((putE x v L).length = j + 1) := Lib.hid (by rw [put_len, hth, HLN.out]; rfl)
                        have HSK : Hid (seekN x (putE x v L) = s) := Lib.hid (by rw [(seek_putE x v L).1, HS.out])
                        have HGE : Hid ((putE x v L).getD s d0 = (x, v)) := Lib.hid (by rw [HS.out]; exact (seek_putE x v L).2.1)
                        have hxb : (x.toList == x.toList) = true := beq_self x
                        have hvb : (v == v) = true := by simp
                        have F1 : Hid True := trivial
                        clear hth
                        go_wp2_with (first
                          | (go_at_call 16; clear F1; refine (put_any _ _ _ L x v _ HO1.out (by omega) hnc HZ.out).mono ?_; rintro e w5 ⟨A5, n5, c5, rfl, hr5, hc5, hm5, hz5, hb5⟩; rw [HTH.out, HWA.out]; obtain rfl : n5 = j + 1 := (ents_len hr5).symm.trans HN5.out; replace e1 := (hb5.cell (p := ⟨(ao.add (s * 2)).block, (ao.add (s * 2)).off + 1, none⟩) (by show (ao.add (s * 2)).block < _; rw [block_of_add]; exact hbo)).trans e1; replace g0 := (hb5.cell (World.block_lt_of_cell? _ _ g0)).trans g0; replace g1 := (hb5.cell (World.block_lt_of_cell? _ _ g1)).trans g1; have H5 := Lib.hid hr5; have HB5 := Lib.hid (afterW HB1.out hb5); have HM5 := Lib.hid hm5; have HZ5 := Lib.hid hz5; clear hr5 hm5 hz5 hb5; have F2 : Hid True := trivial)
                          | (go_at_call 12; clear F2; refine (seek_any _ _ _ (putE x v L) x _ H5.out (by omega)).mono ?_; rintro e w6 ⟨rfl, hb6⟩; rw [HSK.out]; replace g0 := (hb6.cell (World.block_lt_of_cell? _ _ g0)).trans g0; replace g1 := (hb6.cell (World.block_lt_of_cell? _ _ g1)).trans g1; replace H5 := Lib.hid (onR H5.out hb6); replace HB5 := Lib.hid (afterW HB5.out hb6); clear hb6)
                          | fail)
                        obtain ⟨a5, hA5, _, p0, p1⟩ := ents_get H5.out (k := s) (by omega)
                        subst hA5
                        rw [HGE.out] at p0 p1
                        have H5d : Hid (Reads w6.drew w6.drew.heap.size 2 (some a5) (j + 1) (rowE (putE x v L))) := Lib.hid H5.out
                        have HB5d : Hid (Below w.heap.size w w6.drew) := Lib.hid HB5.out.drew
                        clear H5 HB5
                        go_big_region
                        all_goals
                          have H5 := H5d
                          have HB5 := HB5d
                          have F7 : Hid True := trivial
                          clear H5d HB5d p0 p1 g0 g1
                          go_wp2_with (first
                            | (go_at_call 14; clear F7; refine (rightE_any _ _ _ _ _ H5.out (by omega)).mono ?_; rintro e w7 ⟨rfl, hb7⟩; rw [HOKB.out]; replace H5 := Lib.hid (onR H5.out hb7); replace HB5 := Lib.hid (afterW HB5.out hb7); clear hb7; have F8 : Hid True := trivial)
                            | (go_at_call 15; clear F8; refine (rightL_any _ _ _ _ _ H5.out HTX.out (by omega)).mono ?_; rintro e w8 ⟨rfl, hb8⟩; rw [HOKB.out]; replace H5 := Lib.hid (onR H5.out hb8); replace HB5 := Lib.hid (afterW HB5.out hb8); clear hb8)
                            | fail)
                          go_roundw
                          case rel => exact ⟨q + 1, some a5, _, c5, (putE x v L), rfl, by first | rfl | go_num, by go_num, by omega, by omega, Lib.hid ⟨HOK5.out, H5.out, hc5, HM5.out, HZ5.out, HB5.out⟩⟩
                          case measure => simp only [intOf]; omega
                    | false =>
                      as_aux_lemma =>
                        have HWA : Hid (wasN x L = 0) := Lib.hid (by unfold wasN; rw [hth, if_neg (by decide)])
                        rw [atK_no hth]
                        have hs0 := seek_leN x L
                        rw [HLN.out] at hs0
                        obtain ⟨s, hss⟩ : ∃ s, s = seekN x L := ⟨_, rfl⟩
                        rw [← hss] at hs0
                        have HS := Lib.hid hss
                        have hsI : (0 : Int) ≤ (s : Int) := by omega
                        have hsN : ((s : Int) < 0) = False := eq_false (by omega)
                        have hsJ : (s : Int) < ((n + 1 : Nat) : Int) := by omega
                        have hsG : (((n + 1 : Nat) : Int) ≤ (s : Int)) = False := eq_false (by omega)
                        have hsH : (n + 1 ≤ s) = False := eq_false (by omega)
                        have hsK : ((n : Int) + 1 ≤ (s : Int)) = False := eq_false (by omega)
                        clear hss
                        have HTH := Lib.hid hth
                        have HOK5 : Hid (OKE (putE x v L)) := Lib.hid (put_ok HOK.out HOX.out)
                        have HOKB : Hid (okB (putE x v L) = true) := Lib.hid (okB_true HOK5.out)
                        have HTX : Hid (Texts (putE x v L)) := Lib.hid (ok_texts HOK5.out)
                        have HN5 : Hid ((putE x v L).length = n + 1) := Lib.hid (by rw [put_len, hth, HLN.out]; rfl)
                        have HSK : Hid (seekN x (putE x v L) = s) := Lib.hid (by rw [(seek_putE x v L).1, HS.out])
                        have HGE : Hid ((putE x v L).getD s d0 = (x, v)) := Lib.hid (by rw [HS.out]; exact (seek_putE x v L).2.1)
                        have hxb : (x.toList == x.toList) = true := beq_self x
                        have hvb : (v == v) = true := by simp
                        have F1 : Hid True := trivial
                        clear hth
                        go_wp2_with (first
                          | (go_at_call 16; clear F1; refine (put_any _ _ _ L x v _ HO1.out (by omega) hnc HZ.out).mono ?_; rintro e w5 ⟨A5, n5, c5, rfl, hr5, hc5, hm5, hz5, hb5⟩; rw [HTH.out, HWA.out]; obtain rfl : n5 = n + 1 := (ents_len hr5).symm.trans HN5.out; replace g0 := (hb5.cell (World.block_lt_of_cell? _ _ g0)).trans g0; replace g1 := (hb5.cell (World.block_lt_of_cell? _ _ g1)).trans g1; have H5 := Lib.hid hr5; have HB5 := Lib.hid (afterW HB1.out hb5); have HM5 := Lib.hid hm5; have HZ5 := Lib.hid hz5; clear hr5 hm5 hz5 hb5; have F2 : Hid True := trivial)
                          | (go_at_call 12; clear F2; refine (seek_any _ _ _ (putE x v L) x _ H5.out (by omega)).mono ?_; rintro e w6 ⟨rfl, hb6⟩; rw [HSK.out]; replace g0 := (hb6.cell (World.block_lt_of_cell? _ _ g0)).trans g0; replace g1 := (hb6.cell (World.block_lt_of_cell? _ _ g1)).trans g1; replace H5 := Lib.hid (onR H5.out hb6); replace HB5 := Lib.hid (afterW HB5.out hb6); clear hb6)
                          | fail)
                        obtain ⟨a5, hA5, _, p0, p1⟩ := ents_get H5.out (k := s) (by omega)
                        subst hA5
                        rw [HGE.out] at p0 p1
                        have H5d : Hid (Reads w6.drew w6.drew.heap.size 2 (some a5) (n + 1) (rowE (putE x v L))) := Lib.hid H5.out
                        have HB5d : Hid (Below w.heap.size w w6.drew) := Lib.hid HB5.out.drew
                        clear H5 HB5
                        go_big_region
                        all_goals
                          have H5 := H5d
                          have HB5 := HB5d
                          have F7 : Hid True := trivial
                          clear H5d HB5d p0 p1 g0 g1
                          go_wp2_with (first
                            | (go_at_call 14; clear F7; refine (rightE_any _ _ _ _ _ H5.out (by omega)).mono ?_; rintro e w7 ⟨rfl, hb7⟩; rw [HOKB.out]; replace H5 := Lib.hid (onR H5.out hb7); replace HB5 := Lib.hid (afterW HB5.out hb7); clear hb7; have F8 : Hid True := trivial)
                            | (go_at_call 15; clear F8; refine (rightL_any _ _ _ _ _ H5.out HTX.out (by omega)).mono ?_; rintro e w8 ⟨rfl, hb8⟩; rw [HOKB.out]; replace H5 := Lib.hid (onR H5.out hb8); replace HB5 := Lib.hid (afterW HB5.out hb8); clear hb8)
                            | fail)
                          go_roundw
                          case rel => exact ⟨q + 1, some a5, _, c5, (putE x v L), rfl, by first | rfl | go_num, by go_num, by omega, by omega, Lib.hid ⟨HOK5.out, H5.out, hc5, HM5.out, HZ5.out, HB5.out⟩⟩
                          case measure => simp only [intOf]; omega
                · have hq2 : ¬ (q : Int) < (n1 : Int) := by omega
                  cases hth : thereN x L with
                  | true =>
                    as_aux_lemma =>
                      obtain ⟨hs0, _⟩ := there_lt hth
                      rw [HLN.out] at hs0
                      obtain ⟨s, hss⟩ : ∃ s, s = seekN x L := ⟨_, rfl⟩
                      rw [← hss] at hs0
                      have HS := Lib.hid hss
                      obtain ⟨ao, hAo, hbo, _, e1⟩ := ents_get HO1.out hs0
                      subst hAo
                      obtain ⟨u, huu⟩ : ∃ u, u = (L.getD s d0).2 := ⟨_, rfl⟩
                      rw [← huu] at e1
                      have HWA : Hid (wasN x L = u) := Lib.hid (by unfold wasN; rw [hth, if_pos rfl, ← hss, huu])
                      have hat : atK x L n = (s : Int) := by rw [← HLN.out, atK_yes hth, hss]
                      rw [hat]
                      obtain ⟨j, rfl⟩ : ∃ j, n = j + 1 := ⟨n - 1, by omega⟩
                      have hsI : (0 : Int) ≤ (s : Int) := by omega
                      have hsN : ((s : Int) < 0) = False := eq_false (by omega)
                      have hsJ : (s : Int) < ((j + 1 : Nat) : Int) := by omega
                      have hsG : (((j + 1 : Nat) : Int) ≤ (s : Int)) = False := eq_false (by omega)
                      have hsH : (j + 1 ≤ s) = False := eq_false (by omega)
                      have hsK : ((j : Int) + 1 ≤ (s : Int)) = False := eq_false (by omega)
                      have HUU : Hid ((u == u) = true) := Lib.hid (by simp)
                      have huq := HUU.out
                      clear hss huu hat
                      have HTH := Lib.hid hth
                      have HOK5 : Hid (OKE (putE x v L)) := Lib.hid (put_ok HOK.out HOX.out)
                      have HOKB : Hid (okB (putE x v L) = true) := Lib.hid (okB_true HOK5.out)
                      have HTX : Hid (Texts (putE x v L)) := Lib.hid (ok_texts HOK5.out)
                      have HN5 : Hid ((putE x v L).length = j + 1) := Lib.hid (by rw [put_len, hth, HLN.out]; rfl)
                      have HSK : Hid (seekN x (putE x v L) = s) := Lib.hid (by rw [(seek_putE x v L).1, HS.out])
                      have HGE : Hid ((putE x v L).getD s d0 = (x, v)) := Lib.hid (by rw [HS.out]; exact (seek_putE x v L).2.1)
                      have hxb : (x.toList == x.toList) = true := beq_self x
                      have hvb : (v == v) = true := by simp
                      have F1 : Hid True := trivial
                      clear hth
                      go_wp2_with (first
                        | (go_at_call 16; clear F1; refine (put_any _ _ _ L x v _ HO1.out (by omega) hnc HZ.out).mono ?_; rintro e w5 ⟨A5, n5, c5, rfl, hr5, hc5, hm5, hz5, hb5⟩; rw [HTH.out, HWA.out]; obtain rfl : n5 = j + 1 := (ents_len hr5).symm.trans HN5.out; replace e1 := (hb5.cell (p := ⟨(ao.add (s * 2)).block, (ao.add (s * 2)).off + 1, none⟩) (by show (ao.add (s * 2)).block < _; rw [block_of_add]; exact hbo)).trans e1; replace g0 := (hb5.cell (World.block_lt_of_cell? _ _ g0)).trans g0; replace g1 := (hb5.cell (World.block_lt_of_cell? _ _ g1)).trans g1; have H5 := Lib.hid hr5; have HB5 := Lib.hid (afterW HB1.out hb5); have HM5 := Lib.hid hm5; have HZ5 := Lib.hid hz5; clear hr5 hm5 hz5 hb5; have F2 : Hid True := trivial)
                        | (go_at_call 12; clear F2; refine (seek_any _ _ _ (putE x v L) x _ H5.out (by omega)).mono ?_; rintro e w6 ⟨rfl, hb6⟩; rw [HSK.out]; replace g0 := (hb6.cell (World.block_lt_of_cell? _ _ g0)).trans g0; replace g1 := (hb6.cell (World.block_lt_of_cell? _ _ g1)).trans g1; replace H5 := Lib.hid (onR H5.out hb6); replace HB5 := Lib.hid (afterW HB5.out hb6); clear hb6)
                        | fail)
                      obtain ⟨a5, hA5, _, p0, p1⟩ := ents_get H5.out (k := s) (by omega)
                      subst hA5
                      rw [HGE.out] at p0 p1
                      have H5d : Hid (Reads w6.drew w6.drew.heap.size 2 (some a5) (j + 1) (rowE (putE x v L))) := Lib.hid H5.out
                      have HB5d : Hid (Below w.heap.size w w6.drew) := Lib.hid HB5.out.drew
                      clear H5 HB5
                      go_big_region
                      all_goals
                        have H5 := H5d
                        have HB5 := HB5d
                        have F7 : Hid True := trivial
                        clear H5d HB5d p0 p1 g0 g1
                        go_wp2_with (first
                          | (go_at_call 14; clear F7; refine (rightE_any _ _ _ _ _ H5.out (by omega)).mono ?_; rintro e w7 ⟨rfl, hb7⟩; rw [HOKB.out]; replace H5 := Lib.hid (onR H5.out hb7); replace HB5 := Lib.hid (afterW HB5.out hb7); clear hb7; have F8 : Hid True := trivial)
                          | (go_at_call 15; clear F8; refine (rightL_any _ _ _ _ _ H5.out HTX.out (by omega)).mono ?_; rintro e w8 ⟨rfl, hb8⟩; rw [HOKB.out]; replace H5 := Lib.hid (onR H5.out hb8); replace HB5 := Lib.hid (afterW HB5.out hb8); clear hb8)
                          | fail)
                        go_roundw
                        case rel => exact ⟨q + 1, some a5, _, c5, (putE x v L), rfl, by first | rfl | go_num, by go_num, by omega, by omega, Lib.hid ⟨HOK5.out, H5.out, hc5, HM5.out, HZ5.out, HB5.out⟩⟩
                        case measure => simp only [intOf]; omega
                  | false =>
                    as_aux_lemma =>
                      have HWA : Hid (wasN x L = 0) := Lib.hid (by unfold wasN; rw [hth, if_neg (by decide)])
                      rw [atK_no hth]
                      have hs0 := seek_leN x L
                      rw [HLN.out] at hs0
                      obtain ⟨s, hss⟩ : ∃ s, s = seekN x L := ⟨_, rfl⟩
                      rw [← hss] at hs0
                      have HS := Lib.hid hss
                      have hsI : (0 : Int) ≤ (s : Int) := by omega
                      have hsN : ((s : Int) < 0) = False := eq_false (by omega)
                      have hsJ : (s : Int) < ((n + 1 : Nat) : Int) := by omega
                      have hsG : (((n + 1 : Nat) : Int) ≤ (s : Int)) = False := eq_false (by omega)
                      have hsH : (n + 1 ≤ s) = False := eq_false (by omega)
                      have hsK : ((n : Int) + 1 ≤ (s : Int)) = False := eq_false (by omega)
                      clear hss
                      have HTH := Lib.hid hth
                      have HOK5 : Hid (OKE (putE x v L)) := Lib.hid (put_ok HOK.out HOX.out)
                      have HOKB : Hid (okB (putE x v L) = true) := Lib.hid (okB_true HOK5.out)
                      have HTX : Hid (Texts (putE x v L)) := Lib.hid (ok_texts HOK5.out)
                      have HN5 : Hid ((putE x v L).length = n + 1) := Lib.hid (by rw [put_len, hth, HLN.out]; rfl)
                      have HSK : Hid (seekN x (putE x v L) = s) := Lib.hid (by rw [(seek_putE x v L).1, HS.out])
                      have HGE : Hid ((putE x v L).getD s d0 = (x, v)) := Lib.hid (by rw [HS.out]; exact (seek_putE x v L).2.1)
                      have hxb : (x.toList == x.toList) = true := beq_self x
                      have hvb : (v == v) = true := by simp
                      have F1 : Hid True := trivial
                      clear hth
                      go_wp2_with (first
                        | (go_at_call 16; clear F1; refine (put_any _ _ _ L x v _ HO1.out (by omega) hnc HZ.out).mono ?_; rintro e w5 ⟨A5, n5, c5, rfl, hr5, hc5, hm5, hz5, hb5⟩; rw [HTH.out, HWA.out]; obtain rfl : n5 = n + 1 := (ents_len hr5).symm.trans HN5.out; replace g0 := (hb5.cell (World.block_lt_of_cell? _ _ g0)).trans g0; replace g1 := (hb5.cell (World.block_lt_of_cell? _ _ g1)).trans g1; have H5 := Lib.hid hr5; have HB5 := Lib.hid (afterW HB1.out hb5); have HM5 := Lib.hid hm5; have HZ5 := Lib.hid hz5; clear hr5 hm5 hz5 hb5; have F2 : Hid True := trivial)
                        | (go_at_call 12; clear F2; refine (seek_any _ _ _ (putE x v L) x _ H5.out (by omega)).mono ?_; rintro e w6 ⟨rfl, hb6⟩; rw [HSK.out]; replace g0 := (hb6.cell (World.block_lt_of_cell? _ _ g0)).trans g0; replace g1 := (hb6.cell (World.block_lt_of_cell? _ _ g1)).trans g1; replace H5 := Lib.hid (onR H5.out hb6); replace HB5 := Lib.hid (afterW HB5.out hb6); clear hb6)
                        | fail)
                      obtain ⟨a5, hA5, _, p0, p1⟩ := ents_get H5.out (k := s) (by omega)
                      subst hA5
                      rw [HGE.out] at p0 p1
                      have H5d : Hid (Reads w6.drew w6.drew.heap.size 2 (some a5) (n + 1) (rowE (putE x v L))) := Lib.hid H5.out
                      have HB5d : Hid (Below w.heap.size w w6.drew) := Lib.hid HB5.out.drew
                      clear H5 HB5
                      go_big_region
                      all_goals
                        have H5 := H5d
                        have HB5 := HB5d
                        have F7 : Hid True := trivial
                        clear H5d HB5d p0 p1 g0 g1
                        go_wp2_with (first
                          | (go_at_call 14; clear F7; refine (rightE_any _ _ _ _ _ H5.out (by omega)).mono ?_; rintro e w7 ⟨rfl, hb7⟩; rw [HOKB.out]; replace H5 := Lib.hid (onR H5.out hb7); replace HB5 := Lib.hid (afterW HB5.out hb7); clear hb7; have F8 : Hid True := trivial)
                          | (go_at_call 15; clear F8; refine (rightL_any _ _ _ _ _ H5.out HTX.out (by omega)).mono ?_; rintro e w8 ⟨rfl, hb8⟩; rw [HOKB.out]; replace H5 := Lib.hid (onR H5.out hb8); replace HB5 := Lib.hid (afterW HB5.out hb8); clear hb8)
                          | fail)
                        go_roundw
                        case rel => exact ⟨q + 1, some a5, _, c5, (putE x v L), rfl, by first | rfl | go_num, by go_num, by omega, by omega, Lib.hid ⟨HOK5.out, H5.out, hc5, HM5.out, HZ5.out, HB5.out⟩⟩
                        case measure => simp only [intOf]; omega
    · have hq2 : ¬ ((q : Int) < (n0 : Int) ∧ (q : Int) < 50) := by omega
      have HBF := Lib.hid HI.out.2.2.2.2.2
      clear HI
      rcases (by omega : (q : Int) < (n0 : Int) ∧ ¬ (q : Int) < 50 ∨ ¬ (q : Int) < (n0 : Int)) with ⟨h1, h2⟩ | h1
      · clear hq2 hin
        go_wp2_with (first
          | (go_at_call 3; refine (runs_any _).mono ?_; rintro e wz ⟨rfl, hbz⟩)
          | fail)
        go_ret
        exact ⟨rfl, afterW HBF.out hbz⟩
      · clear hq2 hin
        go_wp2_with (first
          | (go_at_call 3; refine (runs_any _).mono ?_; rintro e wz ⟨rfl, hbz⟩)
          | fail)
        go_ret
        exact ⟨rfl, afterW HBF.out hbz⟩
end Go.Proofs.YtbfmklaakjepaaaDoor
