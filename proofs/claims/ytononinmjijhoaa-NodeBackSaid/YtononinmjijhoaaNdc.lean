/-
  Lists that rise and what With makes of them; the closure of NodeOrder; Within; With at a node of the largest kind; no condition.
-/
import Derived.Test.YtononinmjijhoaaNdb
import Derived.Test.YtononinmjijhoaaBase
namespace Go.Proofs.Ytononinmjijhoaa
open Go.RowKit Go.WideShapes Go.ChangeShapes
set_option linter.all false
abbrev Pw (xs : List Int) : Prop := xs.Pairwise (· < ·)
theorem asc_pw {xs : List Int} (h : Asc xs) : Pw xs := by
  rw [Pw, List.pairwise_iff_getElem]
  intro i j hi hj hij
  have := asc_lt h (j - i - 1) i (by omega)
  have e : i + (j - i - 1) + 1 = j := by omega
  rw [e] at this
  simpa [List.getD_eq_getElem?_getD, hi, hj] using this
theorem pw_asc {xs : List Int} (h : Pw xs) : Asc xs := by
  intro i hi
  rw [Pw, List.pairwise_iff_getElem] at h
  have := h i (i + 1) (by omega) hi (by omega)
  simpa [List.getD_eq_getElem?_getD, hi, show i < xs.length from by omega] using this
/-- What With makes of a node's bytes. -/
def putL (b : Int) : List Int → List Int
  | [] => [b]
  | x :: l => if x < b then x :: putL b l else if x = b then x :: l else b :: x :: l
theorem putL_is (b : Int) : ∀ xs, putL b xs = if isN b xs = true then xs else xs.take (lowN b xs) ++ b :: xs.drop (lowN b xs)
  | [] => by simp [putL, isN, lowN]
  | x :: l => by
    have ih := putL_is b l
    unfold putL
    by_cases h : x < b
    · have e1 : lowN b (x :: l) = lowN b l + 1 := by rw [lowN, if_pos h]
      have e2 : isN b (x :: l) = isN b l := by
        unfold isN; rw [e1]; simp
      rw [if_pos h, ih, e2, e1]
      split <;> simp
    · have e1 : lowN b (x :: l) = 0 := by rw [lowN, if_neg h]
      rw [if_neg h, e1]
      by_cases h2 : x = b
      · rw [if_pos h2, if_pos (by unfold isN; rw [e1]; simp [h2])]
      · rw [if_neg h2, if_neg (by unfold isN; rw [e1]; simp [h2])]; simp
theorem putL_mem (b z : Int) : ∀ xs, z ∈ putL b xs ↔ z = b ∨ z ∈ xs
  | [] => by simp [putL]
  | x :: l => by
    unfold putL
    have ih := putL_mem b z l
    split
    · simp only [List.mem_cons, ih]
      constructor
      · rintro (h | h | h)
        · exact .inr (.inl h)
        · exact .inl h
        · exact .inr (.inr h)
      · rintro (h | h | h)
        · exact .inr (.inl h)
        · exact .inl h
        · exact .inr (.inr h)
    · split
      · rename_i h1 h2; subst h2; simp
      · simp
theorem putL_pw (b : Int) : ∀ xs, Pw xs → Pw (putL b xs)
  | [], _ => by simp [putL, Pw]
  | x :: l, h => by
    unfold putL
    have h0 := List.pairwise_cons.1 h
    split
    · rename_i hx
      refine List.pairwise_cons.2 ⟨fun z hz => ?_, putL_pw b l h0.2⟩
      rcases (putL_mem b z l).1 hz with rfl | hz
      · exact hx
      · exact h0.1 z hz
    · split
      · exact h
      · rename_i h1 h2
        refine List.pairwise_cons.2 ⟨fun z hz => ?_, h⟩
        rcases List.mem_cons.1 hz with rfl | hz
        · omega
        · have := h0.1 z hz; omega
theorem putL_len (b : Int) : ∀ xs, (putL b xs).length ≤ xs.length + 1
  | [] => by simp [putL]
  | x :: l => by
    unfold putL
    have ih := putL_len b l
    split
    · simpa using ih
    · split <;> simp
theorem pw_eq : ∀ xs ys : List Int, Pw xs → Pw ys → (∀ z, z ∈ xs ↔ z ∈ ys) → xs = ys
  | [], [], _, _, _ => rfl
  | [], y :: l, _, _, h => by have := (h y).2 (by simp); simp at this
  | x :: l, [], _, _, h => by have := (h x).1 (by simp); simp at this
  | x :: l, y :: m, hx, hy, h => by
    have h1 := List.pairwise_cons.1 hx
    have h2 := List.pairwise_cons.1 hy
    have hxy : x = y := by
      have a := (h x).1 (by simp)
      have b := (h y).2 (by simp)
      rcases List.mem_cons.1 a with a | a
      · exact a
      rcases List.mem_cons.1 b with b | b
      · exact b.symm
      have := h2.1 x a; have := h1.1 y b; omega
    subst hxy
    rw [pw_eq l m h1.2 h2.2 (fun z => ?_)]
    constructor
    · intro hz
      rcases List.mem_cons.1 ((h z).1 (List.mem_cons_of_mem _ hz)) with e | e
      · have := h1.1 z hz; omega
      · exact e
    · intro hz
      rcases List.mem_cons.1 ((h z).2 (List.mem_cons_of_mem _ hz)) with e | e
      · have := h2.1 z hz; omega
      · exact e
/-- The child that NodeOrder lays at a byte. -/
def kf (b : Int) : Int := refV b (1 + b) false
def Byt (xs : List Int) : Prop := ∀ z ∈ xs, 0 ≤ z ∧ z < 256
theorem kf_refs {xs : List Int} (h : Byt xs) : Refs (xs.map kf) := by
  intro i hi
  simp only [List.length_map] at hi
  have h1 := h (xs.getD i 0) (by rw [List.getD_eq_getElem?_getD, List.getElem?_eq_getElem hi]; exact List.getElem_mem hi)
  refine ⟨xs.getD i 0, 1 + xs.getD i 0, false, ?_, h1.1, by omega, by omega, by omega⟩
  simp [List.getD_eq_getElem?_getD, hi, kf]
theorem byt_put {xs : List Int} {b : Int} (h : Byt xs) (h0 : 0 ≤ b) (h1 : b < 256) : Byt (putL b xs) := fun z hz => by
  rcases (putL_mem b z xs).1 hz with rfl | hz
  · exact ⟨h0, h1⟩
  · exact h z hz
set_option maxRecDepth 100000 in
theorem kid_any (b : Int) (h0 : 0 ≤ b) (h1 : b < 256) (w : World) : Calls Try.prog 22 #[.int .u8 b] w fun e w' => e = .returned (.int .i64 (kf b)) ∧ w' = w := by
  go_enter Try.func22, Try.ntmps22
  have F1 : Hid True := trivial
  go_wp2_with (first
    | (go_at_call 17; clear F1; refine (ref_any b (1 + b) false h0 (by omega) (by omega) (by omega) _).mono ?_; rintro e w' ⟨rfl, hw'⟩; replace hw' := hw'.symm; subst hw')
    | fail)
  go_ret
  exact ⟨rfl, rfl⟩
theorem within_any (n lo h : Int) (h0 : 0 ≤ lo) (hl : lo ≤ h) (h9 : h ≤ 1099511627776) (w : World) :
    Calls Try.prog 10 #[.int .i64 n, .int .i64 lo, .int .i64 h] w fun e w' => e = .returned (.int .i64 (lo + withinV n (h - lo + 1))) ∧ w = w' := by
  have h1 : -(h - lo + 1) < n.tmod (h - lo + 1) := Int.lt_tmod_of_pos n (by omega)
  have h2 : n.tmod (h - lo + 1) < h - lo + 1 := Int.tmod_lt_of_pos n (by omega)
  have h3 : ¬ (h - lo + 1 = 0) := by omega
  go_enter Try.func10, Try.ntmps10
  go_wp2
  all_goals go_ret
  all_goals refine ⟨?_, rfl⟩
  all_goals simp only [withinV]
  all_goals first
    | (rw [if_pos (by omega)]; simp; omega)
    | (rw [if_neg (by omega)]; simp)
    | (rw [if_neg (by omega)]; simp; omega)
/-- With at a node of the largest kind whose children are NodeOrder's. -/
theorem with_order (wd : Int) (pf : ByteArray) (A : Option Addr) (c : Nat) (A' : Option Addr) (c' n : Nat) (xs : List Int) (b : Int) (w : World) (hwd : (bits .and .u64 wd 3 == 3) = false) (hpf : pf.size ≤ 12) (hp : Pw xs) (hb : Byt xs) (h0 : 0 ≤ b) (h1 : b < 256) (hn : n < 256)
    (hx : Reads w w.heap.size 1 A n (xs.map (Value.int .u8))) (hy : Reads w w.heap.size 1 A' n ((xs.map kf).map (Value.int .i64))) :
    Calls Try.prog 19 #[nodeV 4 wd pf A c A' c' n, .int .u8 b, .int .i64 (kf b)] w fun e w' => ∃ v, e = .returned (.tuple #[v, .bool true]) ∧ NV w.heap.size 4 wd pf (putL b xs) ((putL b xs).map kf) (putL b xs).length w v w' := by
  have hl : xs.length = n := klen hx
  have hN : NodeL 4 wd pf xs (xs.map kf) n := ⟨by simp [highV]; omega, by decide, hwd, hpf, pw_asc hp, kf_refs hb⟩
  by_cases hi : isN b xs = true
  · have hd := hi
    unfold isN at hd
    simp only [decide_eq_true_eq] at hd
    refine (with_put 4 wd pf A c A' c' n xs (xs.map kf) b (kf b) b (1 + b) false w hN (by omega) rfl h0 (by omega) (by omega) (by omega) hi (by omega) hx hy).mono ?_
    rintro e w' ⟨v, rfl, hv⟩
    refine ⟨v, rfl, ?_⟩
    have e1 : putL b xs = xs := by rw [putL_is, if_pos hi]
    have e2 : (xs.map kf).set (lowN b xs) (kf b) = xs.map kf := by
      refine List.ext_getElem? fun j => ?_
      rw [List.getElem?_set]
      split
      · rename_i h; subst h
        rw [if_pos (by simp; omega)]
        have : xs[lowN b xs]? = some b := by
          rw [List.getElem?_eq_getElem hd.1]
          have := hd.2
          rw [List.getD_eq_getElem?_getD, List.getElem?_eq_getElem hd.1] at this
          simpa using this
        rw [List.getElem?_map, this]; rfl
      · rfl
    rw [e1, hl, ← e2]
    rw [e2] at hv ⊢
    exact hv
  · have hi' : isN b xs = false := by simpa using hi
    refine (with_new 4 wd pf A c A' c' n xs (xs.map kf) b (kf b) b (1 + b) false w hN (by omega) rfl h0 (by omega) (by omega) (by omega) hi' (by simp [highV]; omega) hx hy).mono ?_
    rintro e w' ⟨v, rfl, hv⟩
    refine ⟨v, rfl, ?_⟩
    have e1 : putL b xs = xs.take (lowN b xs) ++ b :: xs.drop (lowN b xs) := by rw [putL_is, if_neg hi]
    have e2 : (putL b xs).length = n + 1 := by rw [e1, ins_len, hl]
    rw [e2, e1]
    rw [show (xs.map kf).take (lowN b xs) ++ kf b :: (xs.map kf).drop (lowN b xs) = (xs.take (lowN b xs) ++ b :: xs.drop (lowN b xs)).map kf from by simp] at hv
    exact hv
end Go.Proofs.Ytononinmjijhoaa
