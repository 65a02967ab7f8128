/-
  What a leaf's words say of their parts; getPrefix; condition: sizes.
-/
import Derived.Test.YtkobgejeapcfkaaNkJ
import Derived.Test.YtkobgejeapcfkaaPk7
import Derived.Deep.RegionHeld3
namespace Go.Proofs.Ytkobgejeapcfkaa
open Go.RowKit Go.WideShapes Go.ChangeShapes
set_option linter.all false
structure Parts8 (k : ByteArray) (v : Int) (xs : List Int) : Prop where
  p0 : xs.getD 0 0 = 0
  p1 : xs.getD 1 0 = 256 * (k.size : Int)
  ys : (xs.drop 2).take 2 = wd k 2 k.size
  p4 : xs.getD 4 0 = v
  p5 : xs.getD 5 0 = 0
  p6 : xs.getD 6 0 = 0
  p7 : xs.getD 7 0 = 0
theorem leafW_shape (k : ByteArray) (v : Int) (h : k.size ≤ 16) : ∃ a b, wd k 2 k.size = [a, b] ∧ leafW k v = [0, 256 * (k.size : Int), a, b, v, 0, 0, 0] := by
  have hl := wd_len k 2 k.size
  match hw : wd k 2 k.size, hl with
  | [a, b], _ =>
    refine ⟨a, b, rfl, ?_⟩
    unfold leafW
    rw [pad2_wd k h, hw]; rfl
theorem leafW_parts {k : ByteArray} {v : Int} {xs : List Int} (hs : k.size ≤ 16) (h : leafW k v = xs) : Parts8 k v xs := by
  obtain ⟨a, b, h1, h2⟩ := leafW_shape k v hs
  rw [h2] at h
  subst h
  exact ⟨rfl, rfl, by rw [h1]; rfl, rfl, rfl, rfl, rfl⟩
theorem parts_leafW {k : ByteArray} {v : Int} {xs : List Int} (hs : k.size ≤ 16) (hl : xs.length = 8) (h : Parts8 k v xs) : leafW k v = xs := by
  obtain ⟨a, b, h1, h2⟩ := leafW_shape k v hs
  rw [h2]
  match xs, hl, h with
  | [x0, x1, x2, x3, x4, x5, x6, x7], _, ⟨q0, q1, q2, q4, q5, q6, q7⟩ =>
    rw [h1] at q2
    simp at q0 q1 q2 q4 q5 q6 q7
    rw [q0, q1, q2.1, q2.2, q4, q5, q6, q7]
theorem and_255 {x : Nat} (h : x < 256 ^ 8) : bits .and .u64 (x : Int) 255 = ((x % 256 : Nat) : Int) := by
  have e8 : (256 : Nat) ^ 8 = 18446744073709551616 := by decide
  have o1 : BitVec.ofInt 64 ((x : Nat) : Int) = BitVec.ofNat 64 x := BitVec.ofInt_natCast 64 x
  have o2 : BitVec.ofInt 64 (255 : Int) = BitVec.ofNat 64 255 := BitVec.ofInt_natCast 64 255
  show IntKind.u64.wrap ((BitVec.ofInt 64 ((x : Nat) : Int) &&& BitVec.ofInt 64 (255 : Int)).toNat : Int) = _
  rw [o1, o2, BitVec.toNat_and, BitVec.toNat_ofNat, BitVec.toNat_ofNat, Nat.mod_eq_of_lt (by omega), Nat.mod_eq_of_lt (by decide)]
  have e : x &&& 255 = x % 256 := Nat.and_two_pow_sub_one_eq_mod x 8
  rw [e]
  exact IntWalk.u64_in _ (by omega)
theorem reads_mid {w : World} {B g : Nat} {xs : List Int} (h : Reads w B 1 (some ⟨g, 0, none⟩) 8 (u64s xs)) : Reads w B 1 (some ⟨g, 2, none⟩) 2 (u64s ((xs.drop 2).take 2)) := by
  have hl := h.u64
  obtain ⟨ad, e, hb, hc⟩ := h.2 (by omega)
  injection e with e
  subst e
  refine ⟨by rw [u64s_len]; simp; omega, fun _ => ⟨_, rfl, hb, fun j u hu => ?_⟩⟩
  have hj : j < 2 := by
    have := (List.getElem?_eq_some_iff.1 hu).1
    rw [u64s_len] at this
    simp at this; omega
  have e1 : (⟨g, 2, none⟩ : Addr).add j = (⟨g, 0, none⟩ : Addr).add (2 + j) := by
    unfold Addr.add
    by_cases h0 : j = 0
    · subst h0; simp
    · rw [if_neg h0, if_neg (by omega)]; simp
  rw [e1]
  refine hc (2 + j) u ?_
  unfold u64s at hu ⊢
  rw [List.getElem?_map] at hu ⊢
  rw [List.getElem?_take, if_pos hj, List.getElem?_drop] at hu
  exact hu
def preOk (xs : List Int) (m : Nat) : Bool := decide (m ≤ 16) && zfB ((xs.drop 2).take 2) m
def preS (xs : List Int) (m : Nat) : ByteArray := if preOk xs m = true then strOfNums (bt ((xs.drop 2).take 2) m m) else ⟨#[]⟩
set_option maxRecDepth 100000 in
set_option maxHeartbeats 1600000 in
theorem prefix_any (g : Nat) (xs : List Int) (x1 : Nat) (w : World) (h : Reads w w.heap.size 1 (some ⟨g, 0, none⟩) 8 (u64s xs)) (hx : xs.getD 1 0 = (x1 : Int)) (h1 : x1 < 256 ^ 8) : Calls Try.prog 22 #[.slice (some ⟨g, 0, none⟩) 8 8] w fun e w' => e = .returned (.tuple #[.string (preS xs (x1 / 256 % 256)), .bool (preOk xs (x1 / 256 % 256))]) ∧ Below w.heap.size w w' := by
  have e8 : (256 : Nat) ^ 8 = 18446744073709551616 := by decide
  obtain ⟨m, hm⟩ : ∃ m, m = x1 / 256 % 256 := ⟨_, rfl⟩
  rw [← hm]
  have hmid := reads_mid h
  obtain ⟨ad, e, hc⟩ := h.u64at (k := 1) (by omega)
  injection e with e
  subst e
  rw [hx] at hc
  have hcell : w.drew.cell? ⟨g, 1, none⟩ = some (.int .u64 (x1 : Int)) := by
    have : (⟨g, 0, none⟩ : Addr).add 1 = ⟨g, 1, none⟩ := by unfold Addr.add; rw [if_neg (by omega)]
    rw [this] at hc; exact hc
  have hand : bits .and .u64 ((x1 : Int) / 256) 255 = (m : Int) := by
    have : ((x1 : Int) / 256) = ((x1 / 256 : Nat) : Int) := by omega
    rw [this, and_255 (by omega), hm]
  have HMID : Hid (Reads w.drew w.drew.heap.size 1 (some ⟨g, 2, none⟩) 2 (u64s ((xs.drop 2).take 2))) := Lib.hid hmid
  have HM : Hid (m < 256) := Lib.hid (by rw [hm]; exact Nat.mod_lt _ (by omega))
  have w1 : IntKind.i64.wrap (m : Int) = (m : Int) := IntWalk.i64_in _ (by have := HM.out; omega)
  clear hm hmid hc h hx
  by_cases h16 : m ≤ 16
  · cases hz : zfB ((xs.drop 2).take 2) m with
    | true =>
      have ho : preOk xs m = true := by unfold preOk; rw [decide_eq_true h16, hz]; rfl
      have HS : Hid (preS xs m = strOfNums (bt ((xs.drop 2).take 2) m m)) := Lib.hid (by unfold preS; rw [if_pos ho])
      have HZ : Hid (bytesV ((xs.drop 2).take 2) m (zfB ((xs.drop 2).take 2) m) = .tuple #[.string (strOfNums (bt ((xs.drop 2).take 2) m m)), .int .i64 0]) := Lib.hid (by rw [hz]; rfl)
      rw [ho, HS.out]
      clear ho hz
      go_enter Try.func22, Try.ntmps22
      go_wp2
      go_region_held3 (fun w' => w'.cell? ⟨g, 1, none⟩ = some (.int .u64 (x1 : Int))) (first | (go_keep; done) | exact r1)
        (first
          | (go_at_call 43; refine (pbytes_any _ 2 6 m ((xs.drop 2).take 2) _ HMID.out (by omega) (by omega)).mono ?_
             rintro e w2 ⟨rfl, hb2⟩
             have r1 : w2.cell? ⟨g, 1, none⟩ = some (.int .u64 (x1 : Int)) := (hb2.cell (World.block_lt_of_cell? _ _ hcell)).trans hcell
             have HB : Hid (Below w.heap.size w w2) := Lib.hid (after ((Below.refl w.heap.size w).drew) hb2)
             clear hb2
             rw [HZ.out]))
      go_wp2
      go_ret2
      exact ⟨rfl, HB.out⟩
    | false =>
      have ho : preOk xs m = false := by unfold preOk; rw [hz, Bool.and_false]
      have HS : Hid (preS xs m = ⟨#[]⟩) := Lib.hid (by unfold preS; rw [ho]; rfl)
      have HZ : Hid (bytesV ((xs.drop 2).take 2) m (zfB ((xs.drop 2).take 2) m) = .tuple #[.string ⟨#[]⟩, .int .i64 5]) := Lib.hid (by rw [hz]; rfl)
      rw [ho, HS.out]
      clear ho hz
      go_enter Try.func22, Try.ntmps22
      go_wp2
      go_region_held3 (fun w' => w'.cell? ⟨g, 1, none⟩ = some (.int .u64 (x1 : Int))) (first | (go_keep; done) | exact r1)
        (first
          | (go_at_call 43; refine (pbytes_any _ 2 6 m ((xs.drop 2).take 2) _ HMID.out (by omega) (by omega)).mono ?_
             rintro e w2 ⟨rfl, hb2⟩
             have r1 : w2.cell? ⟨g, 1, none⟩ = some (.int .u64 (x1 : Int)) := (hb2.cell (World.block_lt_of_cell? _ _ hcell)).trans hcell
             have HB : Hid (Below w.heap.size w w2) := Lib.hid (after ((Below.refl w.heap.size w).drew) hb2)
             clear hb2
             rw [HZ.out]))
      go_wp2
      go_ret2
      exact ⟨rfl, HB.out⟩
  · have ho : preOk xs m = false := by unfold preOk; rw [decide_eq_false h16, Bool.false_and]
    have HS : Hid (preS xs m = ⟨#[]⟩) := Lib.hid (by unfold preS; rw [ho]; rfl)
    rw [ho, HS.out]
    clear ho
    go_enter Try.func22, Try.ntmps22
    go_wp2
    go_region_held3 (fun w' => w'.cell? ⟨g, 1, none⟩ = some (.int .u64 (x1 : Int))) (first | (go_keep; done) | exact r1)
      (first
        | (go_at_call 43; refine (pbytes_bad _ 2 6 (m : Int) _ (by omega) (by omega)).mono ?_
           rintro e w2 ⟨rfl, hb2⟩
           subst hb2
           have r1 := hcell
           have HB : Hid (Below w.heap.size w w.drew) := Lib.hid ((Below.refl w.heap.size w).drew)
           unfold badV))
    go_wp2
    go_ret2
    exact ⟨rfl, HB.out⟩
end Go.Proofs.Ytkobgejeapcfkaa
