/-
  Same at lists of entries; the law's own test of a list; conditions: lengths that fit an int.
-/
import Derived.Test.YtbfmklaakjepaaaDoorSh7
import Derived.Laws.StructEq
namespace Go.Proofs.YtbfmklaakjepaaaDoor
open Go.RowKit Go.WideShapes Go.ChangeShapes
set_option linter.all false
theorem take_sameE {es fs : List En} {k : Nat} (hx : k < es.length) (hy : k < fs.length) (ht : es.take k = fs.take k) (h : es.getD k d0 = fs.getD k d0) : es.take (k + 1) = fs.take (k + 1) := by
  rw [List.take_succ_eq_append_getElem hx, List.take_succ_eq_append_getElem hy, ht]
  simp only [List.getD_eq_getElem?_getD, List.getElem?_eq_getElem hx, List.getElem?_eq_getElem hy, Option.getD_some] at h
  rw [h]
theorem getD_congr {es fs : List En} (k : Nat) (h : es = fs) : es.getD k d0 = fs.getD k d0 := by rw [h]
set_option maxRecDepth 100000 in
set_option maxHeartbeats 1600000 in
theorem sameE_any (A A' : Option Addr) (n m c c' : Nat) (es fs : List En) (w : World) (hx : Reads w w.heap.size 2 A n (rowE es)) (hy : Reads w w.heap.size 2 A' m (rowE fs)) (hn : n ≤ 9223372036854775807) (hm : m ≤ 9223372036854775807) :
    Calls Tryd.prog 13 #[.slice A n c, .slice A' m c'] w fun e w' => e = .returned (.bool (decide (es = fs))) ∧ Below w.heap.size w w' := by
  have LX : Hid (es.length = n) := Lib.hid (ents_len hx)
  have LY : Hid (fs.length = m) := Lib.hid (ents_len hy)
  by_cases hnm : n = m
  · subst hnm
    go_enter Tryd.func13, Tryd.ntmps13
    go_wp2
    go_loopw [5] (fun i wr => ∃ k : Nat, k ≤ n ∧ i = .int .i64 k ∧ Hid (es.take k = fs.take k) ∧ Below w.heap.size w wr ∧ wr.heap = w.heap) (fun i _ => n - (intOf i).toNat)
    case atStart => exact ⟨0, Nat.zero_le _, rfl, Lib.hid (by simp), Below.refl _ _, rfl⟩
    case round =>
      obtain ⟨k, hk, rfl, HT, hbl, hhp⟩ := hrel
      by_cases hlt : k < n
      · have HKX : Hid (k < es.length) := Lib.hid (by rw [LX.out]; exact hlt)
        have HKY : Hid (k < fs.length) := Lib.hid (by rw [LY.out]; exact hlt)
        have HBW : Hid (Below w.heap.size w wr.drew) := Lib.hid hbl.drew
        obtain ⟨ax, rfl, hbx, g0, g1⟩ := ents_get hx hlt
        obtain ⟨ay, rfl, hby, g2, g3⟩ := ents_get hy hlt
        obtain ⟨x, hxx⟩ : ∃ x, x = (es.getD k d0).1 := ⟨_, rfl⟩
        obtain ⟨v, hvv⟩ : ∃ v, v = (es.getD k d0).2 := ⟨_, rfl⟩
        obtain ⟨y, hyy⟩ : ∃ y, y = (fs.getD k d0).1 := ⟨_, rfl⟩
        obtain ⟨u, huu⟩ : ∃ u, u = (fs.getD k d0).2 := ⟨_, rfl⟩
        rw [← hxx] at g0
        rw [← hvv] at g1
        rw [← hyy] at g2
        rw [← huu] at g3
        have hc : ∀ p : Addr, wr.cell? p = w.cell? p := fun p => by simp [World.cell?, hhp]
        rw [← hc] at g0 g1 g2 g3
        have HX := Lib.hid hxx
        have HV := Lib.hid hvv
        have HY := Lib.hid hyy
        have HU := Lib.hid huu
        have HHP := Lib.hid hhp
        clear hxx hvv hyy huu hc hx hy hbx hby hbl hhp
        by_cases hxy : x = y
        · have hsx : (x.toList == y.toList) = true := by rw [hxy]; exact beq_self y
          by_cases hvu : v = u
          · have hsv : (v == u) = true := by rw [hvu]; simp
            have HN : Hid (es.take (k + 1) = fs.take (k + 1)) := Lib.hid (take_sameE HKX.out HKY.out HT.out (Prod.ext (by rw [← HX.out, ← HY.out, hxy]) (by rw [← HV.out, ← HU.out, hvu])))
            clear hxy hvu
            go_wp2
            go_big_region
            all_goals
              go_wp2
              go_roundw
              case rel => exact ⟨k + 1, by omega, by go_num, HN, HBW.out, HHP.out⟩
              case measure => simp only [intOf]; omega
          · have hsv : (v == u) = false := by simpa using hvu
            have HNE : Hid (decide (es = fs) = false) := Lib.hid (decide_eq_false (fun e => hvu (by rw [HV.out, HU.out, e])))
            clear hxy hvu
            go_wp2
            go_big_region
            all_goals
              go_wp2
              go_ret
              exact ⟨by rw [HNE.out]; rfl, HBW.out⟩
        · have hsx : (x.toList == y.toList) = false := by
            cases h : x.toList == y.toList with
            | false => rfl
            | true => exact absurd (toList_inj (by simpa using h)) hxy
          have HNE : Hid (decide (es = fs) = false) := Lib.hid (decide_eq_false (fun e => hxy (by rw [HX.out, HY.out, e])))
          clear hxy
          go_wp2
          go_big_region
          all_goals
            go_wp2
            go_ret
            exact ⟨by rw [HNE.out]; rfl, HBW.out⟩
      · obtain rfl : n = k := by omega
        have HEQ : Hid (decide (es = fs) = true) := Lib.hid (decide_eq_true (by
          have h := HT.out
          rw [List.take_of_length_le (by rw [LX.out]; exact Nat.le_refl _), List.take_of_length_le (by rw [LY.out]; exact Nat.le_refl _)] at h
          exact h))
        go_wp2
        go_ret
        exact ⟨by rw [HEQ.out]; rfl, hbl⟩
  · have HNE : Hid (decide (es = fs) = false) := Lib.hid (decide_eq_false (fun e => hnm (by rw [← LX.out, ← LY.out, e])))
    go_enter Tryd.func13, Tryd.ntmps13
    go_wp2
    go_ret
    exact ⟨by rw [HNE.out]; rfl, Below.refl _ _⟩
end Go.Proofs.YtbfmklaakjepaaaDoor
