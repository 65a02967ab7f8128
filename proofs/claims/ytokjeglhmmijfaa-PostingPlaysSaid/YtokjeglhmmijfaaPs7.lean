/-
  posting.Seek, Has, Len; conditions: a right list.
-/
import Derived.Test.YtokjeglhmmijfaaPs6
namespace Go.Proofs.Ytokjeglhmmijfaa
open Go.RowKit Go.WideShapes Go.ChangeShapes
set_option linter.all false
/-- A posting list's box. -/
structure PBox (A : Option Addr) (n c : Nat) (w wb : World) : Prop where
  bel : Below w.heap.size w wb
  cell : wb.cell? ⟨w.heap.size, 0, none⟩ = some (.slice A n c)
  lt : w.heap.size < wb.heap.size
theorem PBox.new (A : Option Addr) (n c : Nat) (w : World) : PBox A n c w (w.alloc (.cells #[.slice A n c] 24)) :=
  ⟨below_alloc _ _, by rw [cell_of (heap_alloc_new w _)]; rfl, by simp⟩
theorem PBox.on {A : Option Addr} {n c : Nat} {w wb w' : World} (h : PBox A n c w wb) (hb : Below wb.heap.size wb w') : PBox A n c w w' :=
  ⟨h.bel.trans (hb.mono h.bel.size), (hb.cell (p := ⟨w.heap.size, 0, none⟩) h.lt).trans h.cell, Nat.lt_of_lt_of_le h.lt hb.size⟩
theorem PBox.ran {A : Option Addr} {n c m : Nat} {w wb w' : World} {t : TypeId} {V V' : Value} {xs : List Value} (h : PBox A n c w wb) (hm : Mid wb (w.heap.size + 1) t 1 V m xs) (hr : Ran V V' wb w') : PBox A n c w w' :=
  ⟨h.bel.grown hr.grown h.bel.size (fun g hg => by have := (hm.lt g hg).1; omega), (World.cell?_of_block (hr.grown.block w.heap.size h.lt (fun e => by have := (hm.lt _ e.symm).1; omega))).trans h.cell, Nat.lt_of_lt_of_le h.lt hr.grown.size⟩
def SeekP (o : Option Nat) (w : World) (e : Ending) (w' : World) : Prop := e = .returned (.tuple #[.int .i64 ((o.getD 0 : Nat) : Int), .bool o.isSome]) ∧ Below w.heap.size w w'
theorem SeekP.mk {o : Option Nat} {w w' : World} (v : Nat) (b : Bool) (h : o.getD 0 = v ∧ o.isSome = b) (hb : Below w.heap.size w w') : SeekP o w (.returned (.tuple #[.int .i64 (v : Int), .bool b])) w' := ⟨by rw [h.1, h.2], hb⟩
theorem drop_flat {L : List (List Nat)} {j : Nat} (h : j < L.length) : (L.drop j).flatten = L.getD j [] ++ (L.drop (j + 1)).flatten := by
  rw [List.drop_eq_getElem_cons h, List.getD_eq_getElem?_getD, List.getElem?_eq_getElem h]; rfl
theorem getD_mem {L : List (List Nat)} {j : Nat} (h : j < L.length) : L.getD j [] ∈ L := by rw [List.getD_eq_getElem?_getD, List.getElem?_eq_getElem h]; exact List.getElem_mem h
set_option maxRecDepth 100000 in
set_option maxHeartbeats 1600000 in
theorem seek_any (A : Option Addr) (n c : Nat) (L : List (List Nat)) (x : Int) (w : World) (h : PL w w.heap.size A n c L) (hR : RL L) (hn : n ≤ 1000000) :
    Calls Try.prog 20 #[plV A n c, .int .i64 x] w (SeekP (fndI x L.flatten) w) := by
  obtain ⟨o, ho⟩ : ∃ o, o = fndI x L.flatten := ⟨_, rfl⟩
  rw [← ho]
  have HL := Lib.hid h
  have HR := Lib.hid hR
  have HLN := Lib.hid h.len
  obtain ⟨wb, hwb⟩ : ∃ wb, w.alloc (.cells #[.slice A n c] 24) = wb := ⟨_, rfl⟩
  have HX : Hid (PBox A n c w wb) := Lib.hid (hwb ▸ PBox.new A n c w)
  have HW := Lib.hid hwb
  have p0 := HX.out.cell
  obtain ⟨q, hq⟩ : ∃ q, q = kOf x L := ⟨_, rfl⟩
  have HS : Hid (o = fndI x (L.drop q).flatten) := Lib.hid (by rw [ho, hq]; exact seek_from hR)
  have hqn : q ≤ n := by rw [hq]; unfold kOf; have := cntL_le x L; rw [h.len] at this; omega
  have HQ := Lib.hid hq
  clear ho h hR hwb hq
  unfold plV
  go_enter Try.func20, Try.ntmps20
  go_upto_region 1 with (fail)
  rw [HW.out]
  go_wp2_with (first
    | (go_at_call 34; refine (blockOf_any A n c L x _ ((HL.out.on HX.out.bel)) HR.out hn).mono ?_; rintro e w2 ⟨rfl, hb2⟩; rw [← HQ.out]; have HB2 := Lib.hid hb2; clear hb2)
    | fail)
  clear p0
  go_loopw [6, 7, 8, 9] (fun i _ _ _ wr => ∃ j : Nat, i = .int .i64 j ∧ j ≤ n ∧ Hid (o = fndI x (L.drop j).flatten) ∧ Hid (PBox A n c w wr)) (fun i _ _ _ _ => n - (intOf i).toNat)
  case atStart => exact ⟨q, rfl, hqn, HS, Lib.hid (HX.out.on HB2.out)⟩
  case round =>
    obtain ⟨j, rfl, hj, HO, HY⟩ := hrel
    have p0 := HY.out.cell
    by_cases hlt : j < n
    · have hjl : j < L.length := by rw [HLN.out]; exact hlt
      obtain ⟨b, hb⟩ : ∃ b, b = L.getD j [] := ⟨_, rfl⟩
      have HAB : Hid (ascB 0 b = true) := Lib.hid (by rw [hb]; exact HR.out.block (getD_mem hjl))
      have HLB : Hid (b.length ≤ 16) := Lib.hid (by rw [hb]; exact (HR.out.len _ (getD_mem hjl)).2)
      have HFL : Hid (o = (fndI x b).or (fndI x (L.drop (j + 1)).flatten)) := Lib.hid (by rw [HO.out, drop_flat hjl, ← hb, fnd_app])
      have HBE := Lib.hid hb
      obtain ⟨p, hp⟩ : ∃ p, p = lowI x b := ⟨_, rfl⟩
      have HP := Lib.hid hp
      clear hjl hb hp
      by_cases hc : p < b.length
      · obtain ⟨y, hy⟩ : ∃ y, y = b.getD p 0 := ⟨_, rfl⟩
        have HYE := Lib.hid hy
        have HV : Hid (o.getD 0 = y ∧ o.isSome = true) := Lib.hid (by
          have := fnd_low x b
          rw [← HP.out, if_pos hc] at this
          rw [HFL.out, this, hy]; exact ⟨rfl, rfl⟩)
        clear hy
        have hcI : (p : Int) < b.length := by omega
        go_wp2_with (first
          | (go_at_call 35; refine (block_any A n c j L _ ((HL.out.on HY.out.bel)) HR.out hlt).mono ?_; rintro e w3 ⟨A3, c3, rfl, hb3, hm3⟩
             rw [← HBE.out] at hm3 ⊢
             have g0 := hm3.reads.kat (k := p) hc
             rw [nb_get hc, ← HYE.out] at g0
             obtain ⟨ad3, rfl, g1⟩ := g0
             have HB3 := Lib.hid hb3
             have HM3 := Lib.hid hm3
             clear hb3 hm3)
          | (go_at_call 36; refine (bs_any _ _ b.length _ b x _ HM3.out.reads (by have := HLB.out; omega) HAB.out).mono ?_; rintro e w4 ⟨rfl, hw4⟩; rw [hw4]; clear hw4; rw [← HP.out])
          | fail)
        go_ret2
        exact SeekP.mk _ _ HV.out (HY.out.on HB3.out).bel
      · have HV : Hid (o = fndI x (L.drop (j + 1)).flatten) := Lib.hid (by
          have := fnd_low x b
          rw [← HP.out, if_neg hc] at this
          rw [HFL.out, this]; rfl)
        have hcI : ¬ (p : Int) < b.length := by omega
        go_wp2_with (first
          | (go_at_call 35; refine (block_any A n c j L _ ((HL.out.on HY.out.bel)) HR.out hlt).mono ?_; rintro e w3 ⟨A3, c3, rfl, hb3, hm3⟩
             rw [← HBE.out] at hm3 ⊢
             have HB3 := Lib.hid hb3
             have HM3 := Lib.hid hm3
             clear hb3 hm3)
          | (go_at_call 36; refine (bs_any _ _ b.length _ b x _ HM3.out.reads (by have := HLB.out; omega) HAB.out).mono ?_; rintro e w4 ⟨rfl, hw4⟩; rw [hw4]; clear hw4; rw [← HP.out])
          | fail)
        go_roundw
        case rel => exact ⟨j + 1, by go_num, by omega, HV, Lib.hid (HY.out.on HB3.out)⟩
        case measure => simp only [intOf]; omega
    · obtain rfl : n = j := by omega
      have HV : Hid (o.getD 0 = 0 ∧ o.isSome = false) := Lib.hid (by
        rw [HO.out, List.drop_eq_nil_of_le (by rw [HLN.out]; exact Nat.le_refl _)]; exact ⟨rfl, rfl⟩)
      go_wp2
      go_ret2
      exact SeekP.mk 0 false HV.out HY.out.bel
end Go.Proofs.Ytokjeglhmmijfaa
