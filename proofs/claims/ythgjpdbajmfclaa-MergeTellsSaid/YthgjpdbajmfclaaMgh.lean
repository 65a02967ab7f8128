/-
  MergeFirst: the first ones of many lists are the beginning of their union; condition: what can be read.
-/
import Derived.Test.YthgjpdbajmfclaaMgg
import Derived.Deep.RegionHeld3
namespace Go.Proofs.Ythgjpdbajmfclaa
open Go.RowKit Go.WideShapes Go.ChangeShapes
set_option linter.all false
def inAny (own : List Ar) (x : Int) : Bool := own.any fun e => decide (x ∈ e.l)
theorem inAny_next {own : List Ar} {k : Nat} (h : k < own.length) (x : Int) : inAny (own.take (k + 1)) x = (inAny (own.take k) x || decide (x ∈ (own.getD k dA).l)) := by
  have e : own.take (k + 1) = own.take k ++ [own.getD k dA] := by
    rw [List.take_succ_eq_append_getElem h, List.getD_eq_getElem?_getD, List.getElem?_eq_getElem h]; rfl
  unfold inAny
  rw [e, List.any_append]; simp
def cutL (ls : List Ar) (k m : Nat) : List (List Int) := (ls.take k).map fun a => asc (a.l.take m)
theorem cutL_next {ls : List Ar} {k m : Nat} (h : k < ls.length) : cutL ls (k + 1) m = cutL ls k m ++ [asc ((ls.getD k dA).l.take m)] := by
  have e : ls.take (k + 1) = ls.take k ++ [ls.getD k dA] := by
    rw [List.take_succ_eq_append_getElem h, List.getD_eq_getElem?_getD, List.getElem?_eq_getElem h]; rfl
  unfold cutL
  rw [e, List.map_append]; rfl
theorem cutL_sorted {ls : List Ar} {k m : Nat} {own : List Ar} (h : own.map Ar.l = cutL ls k m) : ∀ e ∈ own, SortedI e.l := by
  intro e he
  have : e.l ∈ cutL ls k m := by rw [← h]; exact List.mem_map_of_mem he
  unfold cutL at this
  obtain ⟨a, _, ha⟩ := List.mem_map.1 this
  rw [← ha]; exact asc_sorted _
theorem sum_le (m : Nat) : ∀ L : List (List Int), (∀ l ∈ L, l.length ≤ m) → (L.map List.length).sum ≤ L.length * m
  | [], _ => by simp
  | a :: r, h => by
    have h1 := sum_le m r (fun l hl => h l (by simp [hl]))
    have h2 := h a (by simp)
    rw [List.map_cons, List.sum_cons, List.length_cons, Nat.succ_mul]; omega
theorem cutL_len {ls : List Ar} {k m : Nat} : (uni (cutL ls k m)).length ≤ k * m := by
  have h1 := uni_len (cutL ls k m)
  have h2 := sum_le m (cutL ls k m) (by
    intro l hl
    unfold cutL at hl
    obtain ⟨a, _, rfl⟩ := List.mem_map.1 hl
    have := asc_len' (a.l.take m)
    rw [List.length_take] at this; omega)
  have h3 : (cutL ls k m).length ≤ k := by unfold cutL; rw [List.length_map, List.length_take]; omega
  have := Nat.mul_le_mul_right m h3
  omega
theorem uni_any {ls : List Ar} {k m : Nat} {own : List Ar} (h : own.map Ar.l = cutL ls k m) (x : Int) : x ∈ uni (own.map Ar.l) ↔ inAny own x = true := by
  rw [uni_mem]
  unfold inAny
  rw [List.any_eq_true]
  constructor
  · rintro ⟨l, hl, hx⟩
    obtain ⟨e, he, rfl⟩ := List.mem_map.1 hl
    rw [asc_of_sorted _ (cutL_sorted h e he)] at hx
    exact ⟨e, he, decide_eq_true hx⟩
  · rintro ⟨e, he, hx⟩
    refine ⟨e.l, List.mem_map_of_mem he, ?_⟩
    rw [asc_of_sorted _ (cutL_sorted h e he)]
    exact of_decide_eq_true hx
theorem SI.cutmin {w : World} {B n c : Nat} {A : Option Addr} {l : List Int} (h : SI w B A n c l) : ∃ q : Nat, (if (30 : Int) < (n : Int) then (30 : Int) else (n : Int)) = (q : Int) ∧ q ≤ n ∧ q ≤ 30 ∧ SI w B A q c (l.take 30) := by
  have hl := h.len
  rcases Nat.le_total n 30 with h30 | h30
  · refine ⟨n, by rw [if_neg (by omega)], Nat.le_refl _, h30, ?_⟩
    rw [List.take_of_length_le (by omega)]; exact h
  · refine ⟨30, ?_, h30, Nat.le_refl _, h.take h30⟩
    split <;> omega
theorem sorted_get {U : List Int} (h : SortedI U) {k : Nat} (hk : k + 1 < U.length) : ¬ U.getD (k + 1) 0 ≤ U.getD k 0 := by
  have := List.pairwise_iff_getElem.1 h k (k + 1) (by omega) hk (by omega)
  rw [List.getD_eq_getElem?_getD, List.getD_eq_getElem?_getD, List.getElem?_eq_getElem hk, List.getElem?_eq_getElem (show k < U.length by omega)]
  simp only [Option.getD_some]
  omega
theorem getI_mem {U : List Int} {k : Nat} (h : k < U.length) : U.getD k 0 ∈ U := by
  rw [List.getD_eq_getElem?_getD, List.getElem?_eq_getElem h]; exact List.getElem_mem h
theorem getA_mem {own : List Ar} {k : Nat} (h : k < own.length) : own.getD k dA ∈ own := by
  rw [List.getD_eq_getElem?_getD, List.getElem?_eq_getElem h]; exact List.getElem_mem h
def At (a b : World) : Prop := a = b
theorem At.rfl_ (a : World) : At a a := rfl
theorem At.eq {a b : World} (h : At a b) : a = b := h
/-- What the first loop holds. -/
structure FO (ls own : List Ar) (w wr : World) (k : Nat) (V : Value) : Prop where
  ol : OL wr w.heap.size V own
  len : own.length = k
  els : own.map Ar.l = cutL ls k 30
  below : Below w.heap.size w wr
set_option maxRecDepth 100000 in
set_option maxHeartbeats 12800000 in
theorem first_law (A : Option Addr) (n c : Nat) (ls : List Ar) (nn : Int) (w : World) (h : LL w w.heap.size A n c ls) :
    Calls Try.prog 5 #[.slice A n c, .int .i64 nn] w fun e w' => e = .returned (.bool true) ∧ Below w.heap.size w w' := by
  obtain ⟨i0, hi0, hz0, hz1, hz2⟩ := info_parts info22
  by_cases hn : n ≤ 10
  · have hn' : ¬ (n : Int) > 10 := by omega
    have HLL := Lib.hid h
    have HLN := Lib.hid h.len
    clear h
    go_enter Try.func5, Try.ntmps5
    go_wp2
    go_loopw [5, 25] (fun V i wr => ∃ (k : Nat) (own : List Ar) (X : Option Addr) (cx : Nat), V = .slice X k cx ∧ i = .int .i64 k ∧ k ≤ n ∧ Hid (FO ls own w wr k (.slice X k cx))) (fun _ i _ => n - (intOf i).toNat)
    case atStart => exact ⟨0, [], none, 0, rfl, rfl, Nat.zero_le _, Lib.hid ⟨OL.nil w, rfl, rfl, Below.refl _ _⟩⟩
    case round =>
      obtain ⟨k, own, X, cx, rfl, rfl, hk, HO⟩ := hrel
      by_cases hlt : k < n
      · have hkl : k < ls.length := by rw [HLN.out]; exact hlt
        obtain ⟨ad, had, hcell, hsi⟩ := (HLL.out.below HO.out.below).at_ hlt
        subst had
        have HADB : (ad.add k).block < w.heap.size := by
          obtain ⟨ad', e', hcell', _⟩ := HLL.out.at_ hlt
          injection e' with e'
          rw [e']; exact World.block_lt_of_cell? _ _ hcell'
        have HCL := Lib.hid (cutL_next (m := 30) hkl)
        generalize ls.getD k dA = e at *
        obtain ⟨eA, en, ec, el⟩ := e
        simp only [Ar.v] at hcell
        simp only at hsi
        have hnc := hsi.1
        obtain ⟨q, hmin, hq1, hq2, hqs⟩ := hsi.cutmin
        have hmn1 : (q : Int) ≤ (ec : Int) := by omega
        have hmn2 : q ≤ ec := by omega
        have HSQ := Lib.hid (hqs.more HO.out.below.size)
        clear hqs
        have HSI := Lib.hid (hsi.more HO.out.below.size)
        clear hsi hkl
        have hNw : w.heap.size ≤ wr.heap.size := HO.out.below.size
        go_wp2
        have hs0 : wr.drew.cell? (ad.add k) = some (.slice eA en ec) := hcell
        have HLTB : Hid ((ad.add k).block < wr.drew.heap.size) := Lib.hid (World.block_lt_of_cell? _ _ hs0)
        have HO2 : Hid (FO ls own w wr.drew k (.slice X k cx)) := Lib.hid ⟨HO.out.ol.below ((Below.refl _ _).drew), HO.out.len, HO.out.els, HO.out.below.drew⟩
        have HRW0 : Hid (Mid wr.drew w.heap.size 22 1 (.slice X k cx) k (own.map Ar.v)) := Lib.hid (HO2.out.len ▸ HO2.out.ol.row)
        have HSC : Hid (SI wr.drew wr.drew.heap.size eA q ec (el.take 30)) := Lib.hid HSQ.out
        have HADK : Hid ((ad.add k).block < w.heap.size) := Lib.hid HADB
        clear HSI HSQ HO hcell
        go_region_held3 (fun w' => w'.cell? (ad.add k) = some (.slice eA en ec)) (first | (go_keep; done) | exact r1 | exact r3)
          (first
            | (go_at_call 9; refine (rising_mid _ _ _ _ _ HSC.out (by omega)).mono ?_
               rintro e w1 ⟨v1, rfl, hm1, hb1⟩
               obtain ⟨A1, c1, rfl⟩ := hm1.form
               have r1 : w1.cell? (ad.add k) = some (.slice eA en ec) := (hb1.cell HLTB.out).trans hs0
               have HM1 := Lib.hid hm1
               have HB1 := Lib.hid hb1
               have HOB : Hid (OL w1 w.heap.size (.slice X k cx) own) := Lib.hid (HO2.out.ol.below hb1)
               have HRW : Hid (Mid w1 w.heap.size 22 1 (.slice X k cx) k (own.map Ar.v)) := Lib.hid (HO2.out.len ▸ HOB.out.row)
               have hNw1 : w.heap.size ≤ w1.heap.size := HOB.out.le
               clear hm1 hb1)
            | (refine step_append_mid (by rfl) _ _ _ (by rfl) w.heap.size 22 i0 _ 1 24 Try.underlying30 hi0 hz0 hz1 hz2 rfl (by omega) (.slice X k cx) k (own.map Ar.v) (by rfl) (HRW.out.same fun g hg => Below.heap_alloc _ _ g (HRW.out.lt g hg).2) ⟨w1.heap.size, 0, none⟩ 1 1 [.slice A1 _ c1] (by rfl) rfl (World.news_of_block (cs := #[.slice A1 _ c1]) (t := 22) (fr := (0, 0)) (heap_alloc_new _ _)) (by simp [Value.oneCell']) (by unfold maxLen; omega) (by omega) (by simp; omega) ?_
               intro v' w3 hmm hran
               obtain ⟨A3, c3, rfl⟩ := hmm.form
               have hbl : Below w.heap.size w1 w3 := (Below.refl _ _).grown hran.alloc.grown hNw1 (fun g hg => (HRW.out.lt g hg).1)
               have r3 : w3.cell? (ad.add k) = some (.slice eA en ec) := (hbl.cell HADK.out).trans r1
               have HF : Hid (FO ls (own ++ [⟨A1, _, c1, asc (el.take 30)⟩]) w w3 (k + 1) (.slice A3 (k + 1) c3)) := Lib.hid (by
                 have hr := hran.alloc
                 refine ⟨HOB.out.snoc (e := ⟨A1, _, c1, asc (el.take 30)⟩) (.inr ⟨_, HM1.out⟩) (by rw [HO2.out.len]; exact hmm) hr, by rw [List.length_append, HO2.out.len]; rfl, by rw [List.map_append, HO2.out.els, HCL.out]; rfl, ?_⟩
                 exact (HO2.out.below.trans (HB1.out.mono HO2.out.below.size)).trans hbl)
               clear hmm hran hbl))
        go_wp2
        go_roundw
        case rel => exact ⟨k + 1, _, A3, c3, rfl, by go_num, by omega, HF⟩
        case measure => simp only [intOf]; omega
      · have hkn : ¬ (k : Int) < (n : Int) := by omega
        have HLO := Lib.hid (HO.out.ol.ll HO.out.len)
        have HEL := Lib.hid HO.out.els
        have HOL := Lib.hid HO.out.len
        obtain ⟨U, hU⟩ : ∃ U, U = uni (own.map Ar.l) := ⟨_, rfl⟩
        have hU9 : U.length ≤ 300 := by
          have := cutL_len (ls := ls) (k := k) (m := 30)
          rw [← HO.out.els, ← hU] at this; omega
        have HUE := Lib.hid hU
        have HU9 : Hid ((uni (own.map Ar.l)).length ≤ 100000) := Lib.hid (by rw [← hU]; omega)
        have HUS : Hid (SortedI U) := Lib.hid (by rw [hU]; exact uni_sorted _)
        have HUM : Hid (∀ x, x ∈ U ↔ inAny own x = true) := Lib.hid (fun x => by rw [hU]; exact uni_any HO.out.els x)
        have HB := Lib.hid HO.out.below
        obtain ⟨m, hm⟩ : ∃ m, m = (U.take nn.toNat).length := ⟨_, rfl⟩
        have HT : Hid (U.take nn.toNat = U.take m) := Lib.hid (by
          rw [hm, List.length_take]
          rcases Nat.le_total nn.toNat U.length with h1 | h1
          · rw [Nat.min_eq_left h1]
          · rw [Nat.min_eq_right h1, List.take_of_length_le h1, List.take_of_length_le (Nat.le_refl _)])
        have HML : Hid (m = min nn.toNat U.length) := Lib.hid (by rw [hm, List.length_take])
        obtain ⟨M, hM⟩ : ∃ M, M = nn.toNat := ⟨_, rfl⟩
        have HMN := Lib.hid hM
        have hmax : (if nn < 0 then (0 : Int) else nn) = (M : Int) := by split <;> omega
        clear hM
        have HMM := Lib.hid hm
        clear hU hm HO
        go_wp2_with (first
          | (go_at_call 13; refine (first_any nn _ _ _ own _ HLO.out (by omega) HU9.out).mono ?_
             rintro e w5 ⟨v5, rfl, hm5, hb5⟩
             rw [← HUE.out, ← HMM.out] at hm5
             obtain ⟨A5, c5, rfl⟩ := hm5.form
             have HX := Lib.hid hm5.si
             replace HLO := Lib.hid (HLO.out.on hb5)
             replace HB := Lib.hid (after HB.out hb5)
             clear hm5 hb5)
          | (go_at_call 7; refine (union_any _ _ _ own _ HLO.out (by omega) HU9.out).mono ?_
             rintro e w6 ⟨A6, n6, c6, rfl, hs6, hb6⟩
             rw [← HUE.out] at hs6
             have hn6 : n6 = U.length := hs6.len.symm
             rw [← hn6] at hU9
             have hm' : m = min M n6 := (by rw [HMN.out, hn6]; exact HML.out)
             have hmin : (if n6 < M then (n6 : Int) else (M : Int)) = (m : Int) := (by split <;> omega)
             have hle : (n6 < m) = False := (by simp; omega)
             have hc6 : n6 ≤ c6 := hs6.1
             have hc7 : m ≤ c6 := (by omega)
             have hc8 : (m : Int) ≤ (c6 : Int) := (by omega)
             have HNE := Lib.hid hn6
             have HLE : Hid (m ≤ n6) := Lib.hid (by omega)
             have HA := Lib.hid hs6
             replace HLO := Lib.hid (HLO.out.on hb6)
             replace HX := Lib.hid (HX.out.on hb6)
             replace HB := Lib.hid (after HB.out hb6)
             clear hs6 hb6 hn6 hm')
          | (go_at_call 8; refine (same_i _ _ _ _ _ _ _ _ _ _ HX.out.2.2.2 (HA.out.take (k := m) HLE.out).2.2.2 HX.out.n9 HX.out.n9).mono ?_
             rintro e w7 ⟨rfl, hb7⟩
             rw [eqB_true HT.out]
             replace HLO := Lib.hid (HLO.out.on hb7)
             replace HA := Lib.hid (HA.out.on hb7)
             replace HB := Lib.hid (after HB.out hb7)
             clear HX hb7 hmin hmax hle hc7 hc8)
          | fail)
        have HAL : Hid (U.length = n6) := Lib.hid HNE.out.symm
        go_loopw [75] (fun i wr => ∃ q : Nat, i = .int .i64 q ∧ q ≤ n6 ∧ At wr w7) (fun i _ => n6 - (intOf i).toNat)
        case atStart => exact ⟨0, rfl, Nat.zero_le _, At.rfl_ _⟩
        case round =>
          obtain ⟨q, rfl, hq, HW⟩ := hrel
          obtain rfl := HW.eq
          clear HW
          
          by_cases hltq : q < n6
          · have hqU : q < U.length := by rw [HAL.out]; exact hltq
            obtain ⟨ad6, rfl, h1⟩ := HA.out.2.2.2.kat hltq
            have HIN : Hid (inAny own (U.getD q 0) = true) := Lib.hid ((HUM.out _).1 (getI_mem hqU))
            have HPRE : Hid (∀ p, q = p + 1 → ¬ U.getD q 0 ≤ U.getD p 0) := Lib.hid (fun p hp => by subst hp; exact sorted_get HUS.out hqU)
            have HA1 : Hid (∀ p, p < q → wr.cell? (ad6.add p) = some (.int .i64 (U.getD p 0))) := Lib.hid (fun p hp => by
              obtain ⟨ad', e', h2⟩ := HA.out.2.2.2.kat (k := p) (by omega)
              injection e' with e'
              rw [e']; exact h2)
            obtain ⟨x, hx⟩ : ∃ x, x = U.getD q 0 := ⟨_, rfl⟩
            rw [← hx] at h1 HIN HPRE
            clear hx hqU
            go_wp2
            go_loopw [11, 82] (fun b i wr2 => ∃ j : Nat, b = .bool (inAny (own.take j) x) ∧ i = .int .i64 j ∧ j ≤ k ∧ At wr2 wr) (fun _ i _ => k - (intOf i).toNat)
            case atStart => exact ⟨0, rfl, rfl, Nat.zero_le _, At.rfl_ _⟩
            case round =>
              obtain ⟨j, rfl, rfl, hj, HW⟩ := hrel
              obtain rfl := HW.eq
              clear HW
              
              by_cases hltj : j < k
              · have hjo : j < own.length := by rw [HOL.out]; exact hltj
                obtain ⟨adj, hadj, hcj, hsj⟩ := HLO.out.at_ hltj
                subst hadj
                have HNX := Lib.hid (inAny_next hjo x)
                generalize own.getD j dA = e at *
                obtain ⟨eA, en, ec, el⟩ := e
                simp only [Ar.v] at hcj
                simp only at hsj
                have HSJ := Lib.hid hsj
                clear hsj hjo
                cases hb : inAny (own.take j) x
                · have HN : Hid (decide (x ∈ el) = inAny (own.take (j + 1)) x) := Lib.hid (by rw [HNX.out, hb, Bool.false_or])
                  clear hb
                  go_wp2_with (first
                    | (go_at_call 14; refine (has_any _ _ _ _ el x _ HSJ.out).mono ?_
                       rintro e w' ⟨rfl, hw'⟩
                       rw [hw', HN.out]
                       clear hw')
                    | fail)
                  go_roundw
                  case rel => exact ⟨j + 1, rfl, by go_num, by omega, At.rfl_ _⟩
                  case measure => simp only [intOf]; omega
                · have HN : Hid (true = inAny (own.take (j + 1)) x) := Lib.hid (by rw [HNX.out, hb, Bool.true_or])
                  clear hb
                  go_wp2
                  go_roundw
                  case rel => exact ⟨j + 1, congrArg Value.bool HN.out, by go_num, by omega, At.rfl_ _⟩
                  case measure => simp only [intOf]; omega
              · obtain rfl : j = k := by omega
                have hT : inAny (own.take j) x = true := by rw [List.take_of_length_le (by rw [HOL.out]; exact Nat.le_refl _)]; exact HIN.out
                rw [hT]
                clear hT
                by_cases hq0 : q = 0
                · have hgt : ¬ (q : Int) > 0 := by omega
                  clear hq0
                  go_wp2
                  go_roundw
                  case rel => exact ⟨q + 1, by go_num, by omega, At.rfl_ _⟩
                  case measure => simp only [intOf]; omega
                · obtain ⟨p, rfl⟩ : ∃ p, q = p + 1 := ⟨q - 1, by omega⟩
                  have hgt : ((p + 1 : Nat) : Int) > 0 := by omega
                  have h2 := HA1.out p (by omega)
                  have hno := HPRE.out p rfl
                  have hp9 : p + 1 ≤ 300 := by omega
                  obtain ⟨y, hy⟩ : ∃ y, y = U.getD p 0 := ⟨_, rfl⟩
                  rw [← hy] at h2 hno
                  clear hy
                  go_wp2
                  go_roundw
                  case rel => exact ⟨p + 1 + 1, by go_num, by omega, At.rfl_ _⟩
                  case measure => simp only [intOf]; omega
          · obtain rfl : q = n6 := by omega
            go_wp2
            go_loopw [111] (fun i wr2 => ∃ j : Nat, i = .int .i64 j ∧ j ≤ k ∧ At wr2 wr) (fun i _ => k - (intOf i).toNat)
            case atStart => exact ⟨0, rfl, Nat.zero_le _, At.rfl_ _⟩
            case round =>
              obtain ⟨j, rfl, hj, HW⟩ := hrel
              obtain rfl := HW.eq
              clear HW
              
              by_cases hltj : j < k
              · have hjo : j < own.length := by rw [HOL.out]; exact hltj
                obtain ⟨adj, hadj, hcj, hsj⟩ := HLO.out.at_ hltj
                subst hadj
                have HSUB : Hid (∀ x ∈ (own.getD j dA).l, x ∈ U) := Lib.hid (fun x hx => (HUM.out x).2 (by
                  unfold inAny
                  rw [List.any_eq_true]
                  exact ⟨_, getA_mem hjo, decide_eq_true hx⟩))
                have HEN : Hid ((own.getD j dA).n ≤ maxLen) := Lib.hid (by have := hsj.1; have := hsj.2.1; omega)
                generalize own.getD j dA = e at *
                obtain ⟨eA, en, ec, el⟩ := e
                simp only [Ar.v] at hcj
                simp only at hsj HSUB
                have hen9 : en ≤ 9223372036854775807 := hsj.n9
                have HSJ := Lib.hid hsj
                have HSL := Lib.hid hsj.len
                clear hsj hjo HEN
                go_wp2
                go_loopw [117] (fun i wr3 => ∃ t : Nat, i = .int .i64 t ∧ t ≤ en ∧ At wr3 wr) (fun i _ => en - (intOf i).toNat)
                case atStart => exact ⟨0, rfl, Nat.zero_le _, At.rfl_ _⟩
                case round =>
                  obtain ⟨t, rfl, ht, HW⟩ := hrel
                  obtain rfl := HW.eq
                  clear HW
                  
                  by_cases hltt : t < en
                  · have htl : t < el.length := by rw [HSL.out]; exact hltt
                    obtain ⟨ade, rfl, h1⟩ := HSJ.out.2.2.2.kat hltt
                    have HIN : Hid (decide (el.getD t 0 ∈ U) = true) := Lib.hid (decide_eq_true (HSUB.out _ (getI_mem htl)))
                    obtain ⟨x, hx⟩ : ∃ x, x = el.getD t 0 := ⟨_, rfl⟩
                    rw [← hx] at h1 HIN
                    clear hx htl
                    go_wp2_with (first
                      | (go_at_call 14; refine (has_any _ _ _ _ U x _ HA.out).mono ?_
                         rintro e w' ⟨rfl, hw'⟩
                         rw [hw', HIN.out]
                         clear hw')
                      | fail)
                    go_roundw
                    case rel => exact ⟨t + 1, by go_num, by omega, At.rfl_ _⟩
                    case measure => simp only [intOf]; omega
                  · obtain rfl : t = en := by omega
                    go_wp2
                    go_roundw
                    case rel => exact ⟨j + 1, by go_num, by omega, At.rfl_ _⟩
                    case measure => simp only [intOf]; omega
              · obtain rfl : j = k := by omega
                go_wp2_with (first
                  | (go_at_call 12; refine (runs_any _).mono ?_
                     rintro e w9 ⟨rfl, hb9⟩
                     replace HB := Lib.hid (after HB.out hb9)
                     clear hb9)
                  | fail)
                go_ret
                exact ⟨rfl, HB.out⟩
  · obtain ⟨adA, hA, _⟩ := h.at_ (k := 0) (by omega)
    subst hA
    have hn' : (n : Int) > 10 := by omega
    have h' := h.take (k := 10) (by omega)
    have hc10 : 10 ≤ c := by have := h.1; omega
    have hc11 : (10 : Int) ≤ (c : Int) := by omega
    have hc12 : ¬ (c : Int) < 10 := by omega
    obtain ⟨ls', hls'⟩ : ∃ l, l = ls.take 10 := ⟨_, rfl⟩
    rw [← hls'] at h'
    clear h hls'
    have HLL := Lib.hid h'
    have HLN := Lib.hid h'.len
    clear h'
    go_enter Try.func5, Try.ntmps5
    go_wp2
    go_loopw [5, 25] (fun V i wr => ∃ (k : Nat) (own : List Ar) (X : Option Addr) (cx : Nat), V = .slice X k cx ∧ i = .int .i64 k ∧ k ≤ 10 ∧ Hid (FO ls' own w wr k (.slice X k cx))) (fun _ i _ => 10 - (intOf i).toNat)
    case atStart => exact ⟨0, [], none, 0, rfl, rfl, Nat.zero_le _, Lib.hid ⟨OL.nil w, rfl, rfl, Below.refl _ _⟩⟩
    case round =>
      obtain ⟨k, own, X, cx, rfl, rfl, hk, HO⟩ := hrel
      by_cases hlt : k < 10
      · have hkl : k < ls'.length := by rw [HLN.out]; exact hlt
        obtain ⟨ad, had, hcell, hsi⟩ := (HLL.out.below HO.out.below).at_ hlt
        injection had with had
        subst had
        have HADB : (adA.add k).block < w.heap.size := by
          obtain ⟨ad', e', hcell', _⟩ := HLL.out.at_ hlt
          injection e' with e'
          rw [e']; exact World.block_lt_of_cell? _ _ hcell'
        have HCL := Lib.hid (cutL_next (m := 30) hkl)
        generalize ls'.getD k dA = e at *
        obtain ⟨eA, en, ec, el⟩ := e
        simp only [Ar.v] at hcell
        simp only at hsi
        have hnc := hsi.1
        obtain ⟨q, hmin, hq1, hq2, hqs⟩ := hsi.cutmin
        have hmn1 : (q : Int) ≤ (ec : Int) := by omega
        have hmn2 : q ≤ ec := by omega
        have HSQ := Lib.hid (hqs.more HO.out.below.size)
        clear hqs
        have HSI := Lib.hid (hsi.more HO.out.below.size)
        clear hsi hkl
        have hNw : w.heap.size ≤ wr.heap.size := HO.out.below.size
        go_wp2
        have hs0 : wr.drew.cell? (adA.add k) = some (.slice eA en ec) := hcell
        have HLTB : Hid ((adA.add k).block < wr.drew.heap.size) := Lib.hid (World.block_lt_of_cell? _ _ hs0)
        have HO2 : Hid (FO ls' own w wr.drew k (.slice X k cx)) := Lib.hid ⟨HO.out.ol.below ((Below.refl _ _).drew), HO.out.len, HO.out.els, HO.out.below.drew⟩
        have HRW0 : Hid (Mid wr.drew w.heap.size 22 1 (.slice X k cx) k (own.map Ar.v)) := Lib.hid (HO2.out.len ▸ HO2.out.ol.row)
        have HSC : Hid (SI wr.drew wr.drew.heap.size eA q ec (el.take 30)) := Lib.hid HSQ.out
        have HADK : Hid ((adA.add k).block < w.heap.size) := Lib.hid HADB
        clear HSI HSQ HO hcell
        go_region_held3 (fun w' => w'.cell? (adA.add k) = some (.slice eA en ec)) (first | (go_keep; done) | exact r1 | exact r3)
          (first
            | (go_at_call 9; refine (rising_mid _ _ _ _ _ HSC.out (by omega)).mono ?_
               rintro e w1 ⟨v1, rfl, hm1, hb1⟩
               obtain ⟨A1, c1, rfl⟩ := hm1.form
               have r1 : w1.cell? (adA.add k) = some (.slice eA en ec) := (hb1.cell HLTB.out).trans hs0
               have HM1 := Lib.hid hm1
               have HB1 := Lib.hid hb1
               have HOB : Hid (OL w1 w.heap.size (.slice X k cx) own) := Lib.hid (HO2.out.ol.below hb1)
               have HRW : Hid (Mid w1 w.heap.size 22 1 (.slice X k cx) k (own.map Ar.v)) := Lib.hid (HO2.out.len ▸ HOB.out.row)
               have hNw1 : w.heap.size ≤ w1.heap.size := HOB.out.le
               clear hm1 hb1)
            | (refine step_append_mid (by rfl) _ _ _ (by rfl) w.heap.size 22 i0 _ 1 24 Try.underlying30 hi0 hz0 hz1 hz2 rfl (by omega) (.slice X k cx) k (own.map Ar.v) (by rfl) (HRW.out.same fun g hg => Below.heap_alloc _ _ g (HRW.out.lt g hg).2) ⟨w1.heap.size, 0, none⟩ 1 1 [.slice A1 _ c1] (by rfl) rfl (World.news_of_block (cs := #[.slice A1 _ c1]) (t := 22) (fr := (0, 0)) (heap_alloc_new _ _)) (by simp [Value.oneCell']) (by unfold maxLen; omega) (by omega) (by simp; omega) ?_
               intro v' w3 hmm hran
               obtain ⟨A3, c3, rfl⟩ := hmm.form
               have hbl : Below w.heap.size w1 w3 := (Below.refl _ _).grown hran.alloc.grown hNw1 (fun g hg => (HRW.out.lt g hg).1)
               have r3 : w3.cell? (adA.add k) = some (.slice eA en ec) := (hbl.cell HADK.out).trans r1
               have HF : Hid (FO ls' (own ++ [⟨A1, _, c1, asc (el.take 30)⟩]) w w3 (k + 1) (.slice A3 (k + 1) c3)) := Lib.hid (by
                 have hr := hran.alloc
                 refine ⟨HOB.out.snoc (e := ⟨A1, _, c1, asc (el.take 30)⟩) (.inr ⟨_, HM1.out⟩) (by rw [HO2.out.len]; exact hmm) hr, by rw [List.length_append, HO2.out.len]; rfl, by rw [List.map_append, HO2.out.els, HCL.out]; rfl, ?_⟩
                 exact (HO2.out.below.trans (HB1.out.mono HO2.out.below.size)).trans hbl)
               clear hmm hran hbl))
        go_wp2
        go_roundw
        case rel => exact ⟨k + 1, _, A3, c3, rfl, by go_num, by omega, HF⟩
        case measure => simp only [intOf]; omega
      · have hkn : ¬ (k : Int) < (10 : Int) := by omega
        have HLO := Lib.hid (HO.out.ol.ll HO.out.len)
        have HEL := Lib.hid HO.out.els
        have HOL := Lib.hid HO.out.len
        obtain ⟨U, hU⟩ : ∃ U, U = uni (own.map Ar.l) := ⟨_, rfl⟩
        have hU9 : U.length ≤ 300 := by
          have := cutL_len (ls := ls') (k := k) (m := 30)
          rw [← HO.out.els, ← hU] at this; omega
        have HUE := Lib.hid hU
        have HU9 : Hid ((uni (own.map Ar.l)).length ≤ 100000) := Lib.hid (by rw [← hU]; omega)
        have HUS : Hid (SortedI U) := Lib.hid (by rw [hU]; exact uni_sorted _)
        have HUM : Hid (∀ x, x ∈ U ↔ inAny own x = true) := Lib.hid (fun x => by rw [hU]; exact uni_any HO.out.els x)
        have HB := Lib.hid HO.out.below
        obtain ⟨m, hm⟩ : ∃ m, m = (U.take nn.toNat).length := ⟨_, rfl⟩
        have HT : Hid (U.take nn.toNat = U.take m) := Lib.hid (by
          rw [hm, List.length_take]
          rcases Nat.le_total nn.toNat U.length with h1 | h1
          · rw [Nat.min_eq_left h1]
          · rw [Nat.min_eq_right h1, List.take_of_length_le h1, List.take_of_length_le (Nat.le_refl _)])
        have HML : Hid (m = min nn.toNat U.length) := Lib.hid (by rw [hm, List.length_take])
        obtain ⟨M, hM⟩ : ∃ M, M = nn.toNat := ⟨_, rfl⟩
        have HMN := Lib.hid hM
        have hmax : (if nn < 0 then (0 : Int) else nn) = (M : Int) := by split <;> omega
        clear hM
        have HMM := Lib.hid hm
        clear hU hm HO
        go_wp2_with (first
          | (go_at_call 13; refine (first_any nn _ _ _ own _ HLO.out (by omega) HU9.out).mono ?_
             rintro e w5 ⟨v5, rfl, hm5, hb5⟩
             rw [← HUE.out, ← HMM.out] at hm5
             obtain ⟨A5, c5, rfl⟩ := hm5.form
             have HX := Lib.hid hm5.si
             replace HLO := Lib.hid (HLO.out.on hb5)
             replace HB := Lib.hid (after HB.out hb5)
             clear hm5 hb5)
          | (go_at_call 7; refine (union_any _ _ _ own _ HLO.out (by omega) HU9.out).mono ?_
             rintro e w6 ⟨A6, n6, c6, rfl, hs6, hb6⟩
             rw [← HUE.out] at hs6
             have hn6 : n6 = U.length := hs6.len.symm
             rw [← hn6] at hU9
             have hm' : m = min M n6 := (by rw [HMN.out, hn6]; exact HML.out)
             have hmin : (if n6 < M then (n6 : Int) else (M : Int)) = (m : Int) := (by split <;> omega)
             have hle : (n6 < m) = False := (by simp; omega)
             have hc6 : n6 ≤ c6 := hs6.1
             have hc7 : m ≤ c6 := (by omega)
             have hc8 : (m : Int) ≤ (c6 : Int) := (by omega)
             have HNE := Lib.hid hn6
             have HLE : Hid (m ≤ n6) := Lib.hid (by omega)
             have HA := Lib.hid hs6
             replace HLO := Lib.hid (HLO.out.on hb6)
             replace HX := Lib.hid (HX.out.on hb6)
             replace HB := Lib.hid (after HB.out hb6)
             clear hs6 hb6 hn6 hm')
          | (go_at_call 8; refine (same_i _ _ _ _ _ _ _ _ _ _ HX.out.2.2.2 (HA.out.take (k := m) HLE.out).2.2.2 HX.out.n9 HX.out.n9).mono ?_
             rintro e w7 ⟨rfl, hb7⟩
             rw [eqB_true HT.out]
             replace HLO := Lib.hid (HLO.out.on hb7)
             replace HA := Lib.hid (HA.out.on hb7)
             replace HB := Lib.hid (after HB.out hb7)
             clear HX hb7 hmin hmax hle hc7 hc8)
          | fail)
        have HAL : Hid (U.length = n6) := Lib.hid HNE.out.symm
        go_loopw [75] (fun i wr => ∃ q : Nat, i = .int .i64 q ∧ q ≤ n6 ∧ At wr w7) (fun i _ => n6 - (intOf i).toNat)
        case atStart => exact ⟨0, rfl, Nat.zero_le _, At.rfl_ _⟩
        case round =>
          obtain ⟨q, rfl, hq, HW⟩ := hrel
          obtain rfl := HW.eq
          clear HW
          
          by_cases hltq : q < n6
          · have hqU : q < U.length := by rw [HAL.out]; exact hltq
            obtain ⟨ad6, rfl, h1⟩ := HA.out.2.2.2.kat hltq
            have HIN : Hid (inAny own (U.getD q 0) = true) := Lib.hid ((HUM.out _).1 (getI_mem hqU))
            have HPRE : Hid (∀ p, q = p + 1 → ¬ U.getD q 0 ≤ U.getD p 0) := Lib.hid (fun p hp => by subst hp; exact sorted_get HUS.out hqU)
            have HA1 : Hid (∀ p, p < q → wr.cell? (ad6.add p) = some (.int .i64 (U.getD p 0))) := Lib.hid (fun p hp => by
              obtain ⟨ad', e', h2⟩ := HA.out.2.2.2.kat (k := p) (by omega)
              injection e' with e'
              rw [e']; exact h2)
            obtain ⟨x, hx⟩ : ∃ x, x = U.getD q 0 := ⟨_, rfl⟩
            rw [← hx] at h1 HIN HPRE
            clear hx hqU
            go_wp2
            go_loopw [11, 82] (fun b i wr2 => ∃ j : Nat, b = .bool (inAny (own.take j) x) ∧ i = .int .i64 j ∧ j ≤ k ∧ At wr2 wr) (fun _ i _ => k - (intOf i).toNat)
            case atStart => exact ⟨0, rfl, rfl, Nat.zero_le _, At.rfl_ _⟩
            case round =>
              obtain ⟨j, rfl, rfl, hj, HW⟩ := hrel
              obtain rfl := HW.eq
              clear HW
              
              by_cases hltj : j < k
              · have hjo : j < own.length := by rw [HOL.out]; exact hltj
                obtain ⟨adj, hadj, hcj, hsj⟩ := HLO.out.at_ hltj
                subst hadj
                have HNX := Lib.hid (inAny_next hjo x)
                generalize own.getD j dA = e at *
                obtain ⟨eA, en, ec, el⟩ := e
                simp only [Ar.v] at hcj
                simp only at hsj
                have HSJ := Lib.hid hsj
                clear hsj hjo
                cases hb : inAny (own.take j) x
                · have HN : Hid (decide (x ∈ el) = inAny (own.take (j + 1)) x) := Lib.hid (by rw [HNX.out, hb, Bool.false_or])
                  clear hb
                  go_wp2_with (first
                    | (go_at_call 14; refine (has_any _ _ _ _ el x _ HSJ.out).mono ?_
                       rintro e w' ⟨rfl, hw'⟩
                       rw [hw', HN.out]
                       clear hw')
                    | fail)
                  go_roundw
                  case rel => exact ⟨j + 1, rfl, by go_num, by omega, At.rfl_ _⟩
                  case measure => simp only [intOf]; omega
                · have HN : Hid (true = inAny (own.take (j + 1)) x) := Lib.hid (by rw [HNX.out, hb, Bool.true_or])
                  clear hb
                  go_wp2
                  go_roundw
                  case rel => exact ⟨j + 1, congrArg Value.bool HN.out, by go_num, by omega, At.rfl_ _⟩
                  case measure => simp only [intOf]; omega
              · obtain rfl : j = k := by omega
                have hT : inAny (own.take j) x = true := by rw [List.take_of_length_le (by rw [HOL.out]; exact Nat.le_refl _)]; exact HIN.out
                rw [hT]
                clear hT
                by_cases hq0 : q = 0
                · have hgt : ¬ (q : Int) > 0 := by omega
                  clear hq0
                  go_wp2
                  go_roundw
                  case rel => exact ⟨q + 1, by go_num, by omega, At.rfl_ _⟩
                  case measure => simp only [intOf]; omega
                · obtain ⟨p, rfl⟩ : ∃ p, q = p + 1 := ⟨q - 1, by omega⟩
                  have hgt : ((p + 1 : Nat) : Int) > 0 := by omega
                  have h2 := HA1.out p (by omega)
                  have hno := HPRE.out p rfl
                  have hp9 : p + 1 ≤ 300 := by omega
                  obtain ⟨y, hy⟩ : ∃ y, y = U.getD p 0 := ⟨_, rfl⟩
                  rw [← hy] at h2 hno
                  clear hy
                  go_wp2
                  go_roundw
                  case rel => exact ⟨p + 1 + 1, by go_num, by omega, At.rfl_ _⟩
                  case measure => simp only [intOf]; omega
          · obtain rfl : q = n6 := by omega
            go_wp2
            go_loopw [111] (fun i wr2 => ∃ j : Nat, i = .int .i64 j ∧ j ≤ k ∧ At wr2 wr) (fun i _ => k - (intOf i).toNat)
            case atStart => exact ⟨0, rfl, Nat.zero_le _, At.rfl_ _⟩
            case round =>
              obtain ⟨j, rfl, hj, HW⟩ := hrel
              obtain rfl := HW.eq
              clear HW
              
              by_cases hltj : j < k
              · have hjo : j < own.length := by rw [HOL.out]; exact hltj
                obtain ⟨adj, hadj, hcj, hsj⟩ := HLO.out.at_ hltj
                subst hadj
                have HSUB : Hid (∀ x ∈ (own.getD j dA).l, x ∈ U) := Lib.hid (fun x hx => (HUM.out x).2 (by
                  unfold inAny
                  rw [List.any_eq_true]
                  exact ⟨_, getA_mem hjo, decide_eq_true hx⟩))
                have HEN : Hid ((own.getD j dA).n ≤ maxLen) := Lib.hid (by have := hsj.1; have := hsj.2.1; omega)
                generalize own.getD j dA = e at *
                obtain ⟨eA, en, ec, el⟩ := e
                simp only [Ar.v] at hcj
                simp only at hsj HSUB
                have hen9 : en ≤ 9223372036854775807 := hsj.n9
                have HSJ := Lib.hid hsj
                have HSL := Lib.hid hsj.len
                clear hsj hjo HEN
                go_wp2
                go_loopw [117] (fun i wr3 => ∃ t : Nat, i = .int .i64 t ∧ t ≤ en ∧ At wr3 wr) (fun i _ => en - (intOf i).toNat)
                case atStart => exact ⟨0, rfl, Nat.zero_le _, At.rfl_ _⟩
                case round =>
                  obtain ⟨t, rfl, ht, HW⟩ := hrel
                  obtain rfl := HW.eq
                  clear HW
                  
                  by_cases hltt : t < en
                  · have htl : t < el.length := by rw [HSL.out]; exact hltt
                    obtain ⟨ade, rfl, h1⟩ := HSJ.out.2.2.2.kat hltt
                    have HIN : Hid (decide (el.getD t 0 ∈ U) = true) := Lib.hid (decide_eq_true (HSUB.out _ (getI_mem htl)))
                    obtain ⟨x, hx⟩ : ∃ x, x = el.getD t 0 := ⟨_, rfl⟩
                    rw [← hx] at h1 HIN
                    clear hx htl
                    go_wp2_with (first
                      | (go_at_call 14; refine (has_any _ _ _ _ U x _ HA.out).mono ?_
                         rintro e w' ⟨rfl, hw'⟩
                         rw [hw', HIN.out]
                         clear hw')
                      | fail)
                    go_roundw
                    case rel => exact ⟨t + 1, by go_num, by omega, At.rfl_ _⟩
                    case measure => simp only [intOf]; omega
                  · obtain rfl : t = en := by omega
                    go_wp2
                    go_roundw
                    case rel => exact ⟨j + 1, by go_num, by omega, At.rfl_ _⟩
                    case measure => simp only [intOf]; omega
              · obtain rfl : j = k := by omega
                go_wp2_with (first
                  | (go_at_call 12; refine (runs_any _).mono ?_
                     rintro e w9 ⟨rfl, hb9⟩
                     replace HB := Lib.hid (after HB.out hb9)
                     clear hb9)
                  | fail)
                go_ret
                exact ⟨rfl, HB.out⟩
end Go.Proofs.Ythgjpdbajmfclaa
