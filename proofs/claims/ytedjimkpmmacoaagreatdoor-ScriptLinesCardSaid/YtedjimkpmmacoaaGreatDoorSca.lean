/-
  script.Term's digits, plainly reckoned; no condition.
-/
import Derived.Test.YtedjimkpmmacoaaGreatDoorMid
import Derived.Lib.Hide
import Derived.LoopTactic
import Derived.BigRegion
import Derived.Laws.Small
import Derived.Laws.Cover1
import Derived.Laws.BitsLemmas
import Derived.OwnWalk
namespace Go.Proofs.YtedjimkpmmacoaaGreatDoor
open Go.RowKit Go.WideShapes Go.ChangeShapes
set_option linter.all false
theorem wraps_i64 (n : Int) (h₀ : 0 ≤ n) (h₁ : n < 2 ^ 63) : IntKind.i64.wrap n = n := by
  have h2 : ¬ n % 18446744073709551616 ≥ 9223372036854775808 := by omega
  simp [IntKind.wrap, IntKind.bits, IntKind.signed, h2]
  omega
/-- The lowest byte of an int. -/
theorem and_low (n : Int) : bits .and .i64 n 255 = n % 256 := by
  have o2 : BitVec.ofInt 64 (255 : Int) = BitVec.ofNat 64 255 := BitVec.ofInt_natCast 64 255
  have hm : (BitVec.ofInt 64 n &&& BitVec.ofInt 64 (255 : Int)).toNat = (n % 256).toNat := by
    rw [o2, BitVec.toNat_and, BitVec.toNat_ofNat, Nat.mod_eq_of_lt (by decide : 255 < 2 ^ 64), BitVec.toNat_ofInt]
    have e : ∀ x : Nat, x &&& 255 = x % 256 := fun x => Nat.and_two_pow_sub_one_eq_mod x 8
    rw [e]
    have h1 : ((n % ((2 ^ 64 : Nat) : Int)).toNat : Int) = n % ((2 ^ 64 : Nat) : Int) := Int.toNat_of_nonneg (Int.emod_nonneg _ (by decide))
    have h2 : n % ((2 ^ 64 : Nat) : Int) % 256 = n % 256 := Int.emod_emod_of_dvd n (by decide)
    omega
  show IntKind.i64.wrap ((BitVec.ofInt 64 n &&& BitVec.ofInt 64 (255 : Int)).toNat : Int) = n % 256
  rw [hm]
  have h0 : 0 ≤ n % 256 := Int.emod_nonneg _ (by decide)
  have h1 : n % 256 < 256 := Int.emod_lt_of_pos _ (by decide)
  rw [Int.toNat_of_nonneg h0]
  exact wraps_i64 _ h0 (by omega)
/-- The digits of k, with fuel. -/
def tl : Nat → Nat → List Int
  | 0, _ => []
  | f + 1, k => if k < 4 then [97 + (k : Int)] else (97 + ((k % 4 : Nat) : Int)) :: tl f (k / 4)
def vl : List Int → Int
  | [] => 0
  | d :: l => (d - 97) + 4 * vl l
def okT (k : Nat) : Bool := (tl 4 k).length ≤ 4 && 1 ≤ (tl 4 k).length && ((tl 4 k).all fun d => decide (97 ≤ d) && decide (d ≤ 100)) && decide (vl (tl 4 k) = (k : Int)) && ((tl 4 k).length == 1 || (tl 4 k).getD ((tl 4 k).length - 1) 0 != 97) && ((List.range 5).all fun j => decide (0 ≤ vl ((tl 4 k).drop j)) && decide (vl ((tl 4 k).drop j) < 256))
set_option maxRecDepth 100000 in
theorem okT_all : ((List.range 256).all okT) = true := by kernel_rfl
structure TlOk (k : Nat) : Prop where
  le4 : (tl 4 k).length ≤ 4
  ge1 : 1 ≤ (tl 4 k).length
  rng : ∀ i, i < (tl 4 k).length → 97 ≤ (tl 4 k).getD i 0 ∧ (tl 4 k).getD i 0 ≤ 100
  val : vl (tl 4 k) = (k : Int)
  top : (tl 4 k).length = 1 ∨ (tl 4 k).getD ((tl 4 k).length - 1) 0 ≠ 97
  bnd : ∀ j, j < 5 → 0 ≤ vl ((tl 4 k).drop j) ∧ vl ((tl 4 k).drop j) < 256
theorem tl_ok {k : Nat} (h : k < 256) : TlOk k := by
  have h1 := List.all_eq_true.1 okT_all k (List.mem_range.2 h)
  unfold okT at h1
  simp only [Bool.and_eq_true, decide_eq_true_eq, List.all_eq_true, Bool.or_eq_true, beq_iff_eq, bne_iff_ne] at h1
  obtain ⟨⟨⟨⟨⟨a, b⟩, c⟩, d⟩, e⟩, f⟩ := h1
  refine ⟨a, b, fun i hi => ?_, d, e, fun j hj => f j (List.mem_range.2 hj)⟩
  rw [List.getD_eq_getElem?_getD, List.getElem?_eq_getElem hi]
  exact c _ (List.getElem_mem hi)
theorem vl_drop (l : List Int) (i : Nat) (h : i < l.length) : vl (l.drop i) = (l.getD i 0 - 97) + 4 * vl (l.drop (i + 1)) := by
  rw [List.drop_eq_getElem_cons h, vl, List.getD_eq_getElem?_getD, List.getElem?_eq_getElem h]; rfl
/-- What Term's loop holds: ds are made, b is left (fuel f for what is left). -/
def TI (k : Nat) (b : Nat) (ds : List Int) : Prop := (ds = [] ∧ b = k) ∨ (ds ≠ [] ∧ 0 < b ∧ ∃ f, b < 4 ^ f ∧ ds ++ tl f b = tl 4 k) ∨ (ds ≠ [] ∧ b = 0 ∧ ds = tl 4 k)
theorem TI.step {k b : Nat} {ds : List Int} (hk : k < 256) (h : TI k b ds) (hg : 0 < b ∨ ds = []) : TI k (b / 4) (ds ++ [97 + ((b % 4 : Nat) : Int)]) := by
  have one : ∀ f b, b < 4 ^ (f + 1) → 4 ≤ b → tl (f + 1) b = (97 + ((b % 4 : Nat) : Int)) :: tl f (b / 4) := fun f b _ h4 => by rw [tl, if_neg (by omega)]
  have lst : ∀ f b, b < 4 → tl (f + 1) b = [97 + ((b % 4 : Nat) : Int)] := fun f b h4 => by rw [tl, if_pos h4, Nat.mod_eq_of_lt h4]
  have key : ∀ f, b < 4 ^ f → 0 < f → ds ++ tl f b = tl 4 k → TI k (b / 4) (ds ++ [97 + ((b % 4 : Nat) : Int)]) := by
    intro f hb hf e
    obtain ⟨f, rfl⟩ : ∃ g, f = g + 1 := ⟨f - 1, by omega⟩
    by_cases h4 : b < 4
    · refine .inr (.inr ⟨by simp, by omega, ?_⟩)
      rw [← lst f b h4]; exact e
    · refine .inr (.inl ⟨by simp, by omega, f, ?_, ?_⟩)
      · rw [Nat.pow_succ] at hb; omega
      · rw [one f b hb (by omega)] at e
        rw [← e, List.append_assoc]; rfl
  rcases h with ⟨rfl, rfl⟩ | ⟨h1, h2, f, h3, h4⟩ | ⟨h1, h2, h3⟩
  · exact key 4 (by omega) (by omega) rfl
  · refine key f h3 ?_ h4
    rcases Nat.eq_zero_or_pos f with e | e
    · subst e; simp at h3; omega
    · exact e
  · rcases hg with q | q
    · omega
    · exact absurd q h1
theorem TI.fin {k b : Nat} {ds : List Int} (h : TI k b ds) (hb : b = 0) (hd : ds ≠ []) : ds = tl 4 k := by
  rcases h with ⟨e, _⟩ | ⟨_, h2, _⟩ | ⟨_, _, h3⟩
  · exact absurd e hd
  · omega
  · exact h3
end Go.Proofs.YtedjimkpmmacoaaGreatDoor
