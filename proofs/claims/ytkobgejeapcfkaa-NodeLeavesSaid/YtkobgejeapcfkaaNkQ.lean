/-
  The document's DecodeLeaf at any eight words; condition: sizes.
-/
import Derived.Test.YtkobgejeapcfkaaNkP
namespace Go.Proofs.Ytkobgejeapcfkaa
open Go.RowKit Go.WideShapes Go.ChangeShapes
set_option linter.all false
theorem dl_no {xs : List Int} (h : ∀ k' v', leafOk k' v' = true → leafW k' v' ≠ xs) : DL xs ⟨#[]⟩ 0 false := ⟨(fun e => by cases e), fun _ => ⟨rfl, rfl, h⟩⟩
set_option maxHeartbeats 1600000 in
theorem rdec_any (g : Nat) (xs : List Int) (w : World) (h : Reads w w.heap.size 1 (some ⟨g, 0, none⟩) 8 (u64s xs)) (h64 : W64 xs) : Calls Try.prog 11 #[.slice (some ⟨g, 0, none⟩) 8 8] w (DecPost xs w) := by
  have hl : xs.length = 8 := h.u64
  have e8 : (256 : Nat) ^ 8 = 18446744073709551616 := by decide
  obtain ⟨x0, hx0, b0⟩ := h64.nat 0
  obtain ⟨x1, hx1, b1⟩ := h64.nat 1
  obtain ⟨x4, hx4, b4⟩ := h64.nat 4
  obtain ⟨x5, hx5, b5⟩ := h64.nat 5
  obtain ⟨x6, hx6, b6⟩ := h64.nat 6
  obtain ⟨x7, hx7, b7⟩ := h64.nat 7
  rw [← List.getD_eq_getElem?_getD] at hx0 hx1 hx4 hx5 hx6 hx7
  have k0 := rdk h 0 (by omega) hx0
  have k1 := rdk h 1 (by omega) hx1
  have k4 := rdk h 4 (by omega) hx4
  have k5 := rdk h 5 (by omega) hx5
  have k6 := rdk h 6 (by omega) hx6
  have k7 := rdk h 7 (by omega) hx7
  have hc := fun k' v' (hok : leafOk k' v' = true) (he : leafW k' v' = xs) => conds_of hok he hx0 hx1 hx4 hx5 hx6 hx7
  by_cases n0 : (x0 : Int) = 0
  case neg => exact rdec_0 g xs x0 x1 x4 x5 x6 x7 w k0 k1 k4 k5 k6 k7 n0 (Lib.hid (dl_no fun k' v' a b => n0 (hc k' v' a b).1.c0))
  by_cases n1 : bits .andNot .u64 (x1 : Int) 65280 = 0
  case neg => exact rdec_1 g xs x0 x1 x4 x5 x6 x7 w k0 k1 k4 k5 k6 k7 n0 n1 (Lib.hid (dl_no fun k' v' a b => n1 (hc k' v' a b).1.c1))
  by_cases n4 : (x4 : Int) > 1099511627776
  case pos => exact rdec_4 g xs x0 x1 x4 x5 x6 x7 w k0 k1 k4 k5 k6 k7 n0 n1 n4 (Lib.hid (dl_no fun k' v' a b => (hc k' v' a b).1.c4 n4))
  by_cases n5 : bits .or .u64 (bits .or .u64 (x5 : Int) (x6 : Int)) (x7 : Int) = 0
  case neg => exact rdec_5 g xs x0 x1 x4 x5 x6 x7 w k0 k1 k4 k5 k6 k7 n0 n1 n4 n5 (Lib.hid (dl_no fun k' v' a b => n5 (hc k' v' a b).1.c5))
  have P : Pass x0 x1 x4 x5 x6 x7 := ⟨by simpa using n0, by simpa using n1, decide_eq_false (by omega), by simpa using n5⟩
  obtain ⟨a1, a2⟩ := andNot_zero b1 n1
  obtain ⟨z5, z6, z7⟩ := (or3_zero b5 b6 b7).1 n5
  have s8 := shr8 a2
  have s4 : IntKind.i64.wrap (x4 : Int) = (x4 : Int) := IntWalk.i64_in _ (by omega)
  have hm : x1 / 256 < 256 := by omega
  have hx1' : x1 = 256 * (x1 / 256) := by omega
  obtain ⟨m, em⟩ : ∃ m, m = x1 / 256 := ⟨_, rfl⟩
  rw [← em] at s8 hm hx1'
  by_cases h16 : 16 < m
  case pos => exact rdec_A g xs x0 x1 x4 x5 x6 x7 m w h k0 k1 k4 k5 k6 k7 P s8 s4 h16 (Lib.hid (dl_no fun k' v' a b => by
    have h1 := (hc k' v' a b).2
    have h2 := leafOk_size a
    omega))
  have hys : ((xs.drop 2).take 2).length = 2 := by simp; omega
  have h64y : W64 ((xs.drop 2).take 2) := by
    intro i
    rw [List.getElem?_take]
    by_cases hi : i < 2
    · rw [if_pos hi, List.getElem?_drop]; exact h64 (2 + i)
    · rw [if_neg hi]; simp
  cases hr : restB ((xs.drop 2).take 2) m with
  | false => exact rdec_B g xs x0 x1 x4 x5 x6 x7 m w h k0 k1 k4 k5 k6 k7 P s8 s4 (by omega) hr (Lib.hid (dl_no fun k' v' a b => by
      have h1 := (hc k' v' a b).2
      have h2 := leafOk_size a
      have p := leafW_parts (by omega) b
      have h3 := wd_rest k' (by omega)
      rw [← p.ys, ← h1, ← em, hr] at h3
      cases h3))
  | true =>
    obtain ⟨i1, i2⟩ := inv_words hys h64y (by omega : m ≤ 16) hr
    obtain ⟨K, hK⟩ : ∃ K, strOfNums (bt ((xs.drop 2).take 2) m m) = K := ⟨_, rfl⟩
    rw [hK] at i1 i2
    cases hlo : leafOk K (x4 : Int) with
    | false => exact rdec_C g xs x0 x1 x4 x5 x6 x7 m w h k0 k1 k4 k5 k6 k7 P s8 s4 (by omega) hr K (Lib.hid hK) (Lib.hid (by omega)) hlo (Lib.hid (dl_no fun k' v' a b => by
        have h1 := (hc k' v' a b).2
        have h2 := leafOk_size a
        have p := leafW_parts (by omega) b
        have q : strOfNums (bt ((xs.drop 2).take 2) m m) = k' := by
          rw [p.ys, em, h1, wd_str k' 2 (by omega) k'.size (Nat.le_refl _)]
          apply ByteArray.ext
          simp [ByteArray.data_extract]
        have q4 := p.p4
        rw [hx4] at q4
        rw [hK] at q
        rw [q, q4, a] at hlo
        cases hlo))
    | true => exact rdec_D g xs x0 x1 x4 x5 x6 x7 m w h k0 k1 k4 k5 k6 k7 P s8 s4 (by omega) hr K (Lib.hid hK) (Lib.hid (by omega)) hlo (Lib.hid ⟨fun _ => ⟨hlo, parts_leafW (by omega) hl ⟨by rw [hx0]; exact n0, by rw [hx1]; omega, by rw [← i2, i1], hx4, by rw [hx5, z5]; rfl, by rw [hx6, z6]; rfl, by rw [hx7, z7]; rfl⟩⟩, (fun e => by cases e)⟩)
end Go.Proofs.Ytkobgejeapcfkaa
