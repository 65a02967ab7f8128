/-
  The document's own pool: Put and Take, told by lists; conditions: sizes.
-/
import Derived.Test.YtdkokpaboipamaaPm2
import Derived.Test.YtdkokpaboipamaaRd
namespace Go.Proofs.Ytdkokpaboipamaa
open Go.RowKit Go.WideShapes Go.ChangeShapes
set_option linter.all false
/-- The document's pool at Q: most and the list. -/
structure RefP (Q B : Nat) (most : Int) (A : Option Addr) (c : Nat) (ys : List Int) (w : World) : Prop where
  c0 : w.cell? ⟨Q, 0, none⟩ = some (.int .i64 most)
  c1 : w.cell? ⟨Q, 1, none⟩ = some (.slice A ys.length c)
  f1 : w.frozen? ⟨Q, 1, none⟩ = false
  rd : Reads w w.heap.size 1 A ys.length (ints ys)
  cap : ys.length ≤ c
  far : ∀ ad, A = some ad → ad.block ≠ Q
/-- What a call on it did: only Q has turned, and what is new. -/
structure KeptR (Q : Nat) (w w' : World) : Prop where
  os : w'.os = w.os
  tape : w'.tape = w.tape
  output : w'.output = w.output
  size : w.heap.size ≤ w'.heap.size
  block : ∀ b, b < w.heap.size → b ≠ Q → w'.heap[b]? = w.heap[b]?
set_option maxRecDepth 100000 in
set_option maxHeartbeats 400000 in
theorem rtake_no (Q B : Nat) (most : Int) (A : Option Addr) (c : Nat) (w : World) (h : RefP Q B most A c [] w) :
    Calls Try.prog 24 #[.pointer (some ⟨Q, 0, none⟩)] w fun e w' => e = .returned (.tuple #[.int .i64 0, .bool false]) ∧ w' = w := by
  have h1 := h.c1
  simp only [List.length_nil] at h1
  clear h
  go_enter Try.func24, Try.ntmps24
  go_wp2
  go_ret2
  exact ⟨rfl, rfl⟩
theorem RefP.tail {Q B c : Nat} {most y : Int} {A : Option Addr} {ys : List Int} {w : World} (h : RefP Q B most A c (y :: ys) w) :
    RefP Q B most (if c = 1 then A else A.map (·.add 1)) (c - 1) ys (w.setCell ⟨Q, 1, none⟩ (.slice (if c = 1 then A else A.map (·.add 1)) ys.length (c - 1))) := by
  have hl : (y :: ys).length = ys.length + 1 := rfl
  have hc := h.cap
  rw [hl] at hc
  have hr := h.rd.cut (k := 1) (cap := c) (by rw [hl]; omega) (by rw [hl]; omega)
  have e : (y :: ys).length - 1 = ys.length := by simp
  rw [e] at hr
  have hd : (ints (y :: ys)).drop (1 * 1) = ints ys := rfl
  rw [hd] at hr
  have hfar : ∀ ad, (if c = 1 then A else A.map (·.add (1 * 1))) = some ad → ad.block ≠ Q := by
    intro ad ha
    split at ha
    · exact h.far ad ha
    · rcases A with _ | a
      · cases ha
      · simp only [Option.map_some, Option.some.injEq] at ha
        rw [← ha, block_of_add]; exact h.far a rfl
  refine ⟨(World.cell?_setCell_other w _ _ _ (by simp)).trans h.c0, World.cell?_setCell_same _ _ _ h.c1, by rw [World.frozen?_setCell]; exact h.f1, ⟨hr.1, fun hn => ?_⟩, by omega, hfar⟩
  obtain ⟨ad, ha, hb, hcell⟩ := hr.2 hn
  refine ⟨ad, ha, by simpa using hb, fun j u hu => (World.cell?_setCell_far w _ _ _ ?_).trans (hcell j u hu)⟩
  rw [block_of_add]; exact Ne.symm (hfar ad ha)
set_option maxRecDepth 100000 in
set_option maxHeartbeats 400000 in
theorem rtake_yes (Q B : Nat) (most y : Int) (A : Option Addr) (c : Nat) (ys : List Int) (w : World) (h : RefP Q B most A c (y :: ys) w) (hlen : ys.length < 900000) (hcm : c ≤ maxLen) :
    Calls Try.prog 24 #[.pointer (some ⟨Q, 0, none⟩)] w fun e w' => e = .returned (.tuple #[.int .i64 y, .bool true]) ∧ RefP Q B most (if c = 1 then A else A.map (·.add 1)) (c - 1) ys w' ∧ KeptR Q w w' := by
  have ht := h.tail
  have h1 := h.c1
  have hf := h.f1
  have hcap := h.cap
  have hl : (y :: ys).length = ys.length + 1 := rfl
  rw [hl] at h1 hcap
  obtain ⟨ad, ha, hb, hcell⟩ := h.rd.2 (by simp)
  subst ha
  have hc0 := hcell 0 (.int .i64 y) rfl
  have e0 : ad.add 0 = ad := rfl
  rw [e0] at hc0
  unfold maxLen at hcm
  generalize hn : ys.length = n at *
  have HN := Lib.hid hn
  have HT := Lib.hid ht
  clear hn ht h hcell hl
  have K : ∀ u, KeptR Q w (w.setCell ⟨Q, 1, none⟩ u) := fun u => ⟨rfl, rfl, rfl, by simp, fun b _ hq => Below.heap_setCell w _ _ b hq⟩
  by_cases hc1 : c = 1
  · subst hc1
    obtain rfl : n = 0 := by omega
    go_enter Try.func24, Try.ntmps24
    go_wp2
    go_ret2
    exact ⟨rfl, by simpa using HT.out, K _⟩
  · go_enter Try.func24, Try.ntmps24
    go_wp2
    go_ret2
    refine ⟨rfl, ?_, K _⟩
    have := HT.out
    rw [if_neg hc1] at this
    exact this
/-- What stands where a number comes in. -/
def insF (ys : List Int) (n : Int) (k : Nat) : List Int := ys.take k ++ [n] ++ ys.drop k
theorem ints_append (a b : List Int) : ints (a ++ b) = ints a ++ ints b := by simp [ints]
theorem Reads.head {w : World} {B size n : Nat} {A : Option Addr} {xs : List Value} (h : Reads w B size A n xs) {k : Nat} (hk : k ≤ n) : Reads w B size A k (xs.take (k * size)) := by
  refine ⟨by rw [List.length_take, h.1]; exact Nat.min_eq_left (Nat.mul_le_mul_right _ hk), fun hn => ?_⟩
  obtain ⟨ad, e, hb, hc⟩ := h.2 (by omega)
  refine ⟨ad, e, hb, fun j u hu => hc j u ?_⟩
  rw [List.getElem?_take] at hu
  split at hu
  · exact hu
  · cases hu
end Go.Proofs.Ytdkokpaboipamaa
