/-
  A text's terms written with blanks between are its terms; a term is its own only term; condition: a length that fits an int.
-/
import Derived.Test.YtoffibcplbfokaaTk4
namespace Go.Proofs.Ytoffibcplbfokaa
open Go.RowKit Go.WideShapes Go.ChangeShapes
set_option linter.all false
def cost : List (List UInt8) → Nat
  | [] => 0
  | x :: r => x.length + 1 + cost r
theorem cost_append : ∀ a b : List (List UInt8), cost (a ++ b) = cost a + cost b
  | [], b => by simp [cost]
  | x :: a, b => by rw [List.cons_append, cost, cost, cost_append a b]; omega
theorem cost_perm {a b : List (List UInt8)} (h : a.Perm b) : cost a = cost b := by
  induction h with
  | nil => rfl
  | cons x _ ih => rw [cost, cost, ih]
  | swap x y l => simp only [cost]; omega
  | trans _ _ h1 h2 => exact h1.trans h2
theorem cost_sub {a b : List (List UInt8)} (h : a.Sublist b) : cost a ≤ cost b := by
  induction h with
  | slnil => exact Nat.le_refl _
  | cons x _ ih => rw [cost]; omega
  | cons_cons x _ ih => rw [cost, cost]; omega
theorem compact_sub (zs : List (List UInt8)) : (Lib.compact zs).Sublist zs := by
  unfold Lib.compact Lib.compactUpTo
  have h := (List.filter_sublist (l := List.range zs.length) (p := Lib.keeps zs.toArray)).map (zs.toArray[·]!)
  have e := Lib.range_map_get zs.toArray
  rw [List.size_toArray] at e
  rw [e] at h
  exact h
theorem cost_words : ∀ (s w : List UInt8), cost (wordsGo w s) ≤ w.length + s.length + 1
  | [], w => by
    rw [wordsGo, cutW]; split
    · simp [cost]
    · simp [cost]; omega
  | c :: r, w => by
    rw [wordsGo]; split
    · have h1 := cost_words r []
      have h2 := cost_words [] w
      rw [wordsGo] at h2
      rw [cost_append]
      simp only [List.length_cons, List.length_nil] at *; omega
    · have h1 := cost_words r (w ++ [letter c])
      simp only [List.length_append, List.length_cons, List.length_nil] at *; omega
theorem cost_toks (s : List UInt8) : cost (toks s) ≤ s.length + 1 := by
  unfold toks
  have h1 := cost_sub (compact_sub (srt (words s)))
  have h2 : cost (srt (words s)) = cost (words s) := cost_perm (List.mergeSort_perm _ _)
  have h3 := cost_words s []
  unfold words at *
  simp only [List.length_nil] at h3
  omega
/-- The texts with a blank behind each. -/
def joined : List (List UInt8) → List UInt8
  | [] => []
  | x :: r => x ++ 32 :: joined r
theorem joined_snoc : ∀ (a : List (List UInt8)) (x : List UInt8), joined (a ++ [x]) = joined a ++ (x ++ [32])
  | [], x => by simp [joined]
  | y :: a, x => by rw [List.cons_append, joined, joined, joined_snoc a x]; simp
theorem joined_len : ∀ a : List (List UInt8), (joined a).length = cost a
  | [] => rfl
  | x :: a => by rw [joined, cost, List.length_append, List.length_cons, joined_len a]; omega
theorem words_joined : ∀ a : List (List UInt8), (∀ x ∈ a, wordB x) → words (joined a) = a
  | [], _ => rfl
  | x :: a, h => by
    rw [joined, words_join x (joined a) 32 (by decide), words_one (h x (by simp)), words_joined a (fun y hy => h y (by simp [hy]))]; rfl
theorem toks_joined (s : List UInt8) : toks (joined (toks s)) = toks s := by
  refine toks_eq (toks_rises s) fun x => ?_
  rw [words_joined _ (fun y hy => words_word ((toks_mem s y).1 hy))]
theorem toks_of {s x : List UInt8} (h : x ∈ toks s) : toks x = [x] := toks_one (words_word ((toks_mem s x).1 h))
theorem cost_take (a : List (List UInt8)) (k : Nat) : cost (a.take k) ≤ cost a := cost_sub (List.take_sublist k a)
theorem getD_mem {a : List (List UInt8)} {k : Nat} (h : k < a.length) : a.getD k [] ∈ a := by
  rw [List.getD_eq_getElem?_getD, List.getElem?_eq_getElem h]; exact List.getElem_mem h
theorem take_snoc {a : List (List UInt8)} {k : Nat} (h : k < a.length) : a.take (k + 1) = a.take k ++ [a.getD k []] := by
  rw [List.take_succ_eq_append_getElem h, List.getD_eq_getElem?_getD, List.getElem?_eq_getElem h]; rfl
theorem bt_append (a b : List UInt8) : bt a ++ bt b = bt (a ++ b) := ByteArray.ext (by simp [bt, ByteArray.data_append])
/-- A list of the terms of some short text. -/
def TokL (L : List (List UInt8)) : Prop := ∃ s, L = toks s ∧ s.length ≤ 200
theorem TokL.cost {L : List (List UInt8)} (h : TokL L) : cost L ≤ 201 := by
  obtain ⟨s, rfl, hs⟩ := h
  have := cost_toks s; omega
theorem TokL.len {L : List (List UInt8)} (h : TokL L) : L.length ≤ 201 := by
  have h1 := h.cost
  have : ∀ l : List (List UInt8), l.length ≤ Ytoffibcplbfokaa.cost l := by
    intro l; induction l with
    | nil => exact Nat.zero_le _
    | cons x r ih => rw [Ytoffibcplbfokaa.cost, List.length_cons]; omega
  have := this L; omega
theorem TokL.one {L : List (List UInt8)} (h : TokL L) {k : Nat} (hk : k < L.length) : toks (L.getD k []) = [L.getD k []] := by
  obtain ⟨s, rfl, hs⟩ := h
  exact toks_of (getD_mem hk)
theorem TokL.word {L : List (List UInt8)} (h : TokL L) {k : Nat} (hk : k < L.length) : (L.getD k []).length ≤ 12 := by
  obtain ⟨s, rfl, hs⟩ := h
  exact (words_word ((toks_mem s _).1 (getD_mem hk))).2.1
theorem TokL.all {L : List (List UInt8)} (h : TokL L) : toks (joined L) = L := by
  obtain ⟨s, rfl, hs⟩ := h
  exact toks_joined s
set_option maxRecDepth 100000 in
set_option maxHeartbeats 800000 in
theorem terms_law (s : ByteArray) (w : World) (hs : s.size ≤ 9223372036854775807) : Calls Try.prog 7 #[.string s] w fun e w' => e = .returned (.bool true) ∧ Below w.heap.size w w' := by
  have R1 : Hid True := Lib.hid trivial
  go_enter Try.func7, Try.ntmps7
  go_wp2_with (first
    | (go_at_call 8; clear R1; refine (terms_any _ _ (by simp; omega)).mono ?_
       rintro e w1 ⟨v1, rfl, hm1, hb1⟩
       obtain ⟨A1, c1, rfl⟩ := hm1.form
       obtain ⟨L, hL⟩ : ∃ L, L = toks (s.extract 0 (min (s.size : Int) 200).toNat).data.toList := ⟨_, rfl⟩
       rw [← hL] at hm1 ⊢
       have HL : Hid (TokL L) := Lib.hid ⟨_, hL, by simp; omega⟩
       clear hL
       obtain ⟨N, hN⟩ : ∃ N, N = L.length := ⟨_, rfl⟩
       rw [← hN] at hm1 ⊢
       have HN := Lib.hid hN
       have HM := Lib.hid hm1
       have HB := Lib.hid hb1
       clear hm1 hb1 hN)
    | fail)
  have HN2 : Hid (N ≤ 201) := Lib.hid (by rw [HN.out]; exact HL.out.len)
  go_loopw [5, 25] (fun a i wr => ∃ k : Nat, a = .string (bt (joined (L.take k))) ∧ k ≤ N ∧ i = .int .i64 k ∧ Below w1.heap.size w1 wr) (fun _ i _ => N - (intOf i).toNat)
  case atStart => exact ⟨0, rfl, Nat.zero_le _, rfl, Below.refl _ _⟩
  case round =>
    obtain ⟨k, rfl, hk, rfl, hbl⟩ := hrel
    by_cases hlt : k < N
    · have hr := HM.out.reads.on hbl
      obtain ⟨ad, rfl, h1⟩ := hr.sat hlt
      clear hr
      obtain ⟨x, hx⟩ : ∃ x, x = L.getD k [] := ⟨_, rfl⟩
      rw [← hx] at h1
      have HX := Lib.hid hx
      clear hx
      have hne : (!((bt x).toList == (bt x).toList)) = false := by simp
      have hj : (bt (joined (L.take k))).size ≤ 201 := by rw [bt_size, joined_len]; exact Nat.le_trans (cost_take L k) HL.out.cost
      have hw : (bt x).size ≤ 12 := by rw [bt_size, HX.out]; exact HL.out.word (k := k) (by rw [← HN.out]; exact hlt)
      have hlen : ¬ 9223372036854775807 < (bt (joined (L.take k))).size + (bt x).size := by omega
      have hlen2 : ¬ 9223372036854775807 < (bt (joined (L.take k))).size + (bt x).size + 1 := by omega
      have hlen3 : ¬ 9223372036854775807 < (bt (joined (L.take k)) ++ bt x).size + 1 := by rw [ByteArray.size_append]; omega
      have hk2 : k ≤ 201 := by have := HN2.out; omega
      have HJ : Hid (bt (joined (L.take k)) ++ bt x ++ ⟨#[32]⟩ = bt (joined (L.take (k + 1)))) := Lib.hid (by
        rw [take_snoc (by rw [← HN.out]; exact hlt), joined_snoc, ← HX.out, ← bt_append, ← bt_append, ByteArray.append_assoc]; rfl)
      go_wp2_with (first
        | (go_at_call 8; refine (terms_any _ _ (by rw [bt_size, HX.out]; have := HL.out.word (k := k) (by rw [← HN.out]; exact hlt); omega)).mono ?_
           rintro e w2 ⟨v2, rfl, hm2, hb2⟩
           have e9 : toks (bt x).data.toList = [x] := (by rw [bt_data, HX.out]; exact HL.out.one (by rw [← HN.out]; exact hlt))
           rw [e9] at hm2
           obtain ⟨A2, c2, rfl⟩ := hm2.form
           obtain ⟨ad2, rfl, hx2⟩ := (hm2.reads).sat (k := 0) (by simp)
           have hx3 : w2.cell? ad2 = some (.string (bt x)) := (by simpa [Addr.add] using hx2)
           clear hx2
           have HB2 := Lib.hid (hbl.trans (hb2.mono hbl.size))
           clear hm2 hb2 e9)
        | fail)
      go_roundw
      case rel => exact ⟨k + 1, congrArg Value.string HJ.out, by omega, by go_num, HB2.out⟩
      case measure => simp only [intOf]; omega
    · obtain rfl : k = N := by omega
      have HT : Hid (L.take k = L) := Lib.hid (List.take_of_length_le (by rw [← HN.out]; exact Nat.le_refl _))
      rw [HT.out]
      go_wp2_with (first
        | (go_at_call 8; refine (terms_any _ _ (by rw [bt_size, joined_len]; have := HL.out.cost; omega)).mono ?_
           rintro e w2 ⟨v2, rfl, hm2, hb2⟩
           have e9 : toks (bt (joined L)).data.toList = L := HL.out.all
           rw [e9, ← HN.out] at hm2
           obtain ⟨A2, c2, rfl⟩ := hm2.form
           have HM2 := Lib.hid hm2
           have HB2 := Lib.hid (hbl.trans (hb2.mono hbl.size))
           clear hm2 hb2 e9)
        | (go_at_call 10; refine (same_s _ A2 A1 k k c2 c1 L L _ HM2.out.reads (HM.out.reads.on HB2.out) (by have := HN2.out; omega) (by have := HN2.out; omega)).mono ?_
           rintro e w3 ⟨rfl, hb3⟩
           rw [eqB_self]
           have HB3 := Lib.hid (HB2.out.trans (hb3.mono HB2.out.size))
           clear hb3)
        | (go_at_call 13; refine (runs_any _).mono ?_
           rintro e w4 ⟨rfl, hb4⟩
           have HB4 := Lib.hid (after HB.out (HB3.out.trans (hb4.mono HB3.out.size)))
           clear hb4)
        | fail)
      go_ret
      exact ⟨rfl, HB4.out⟩
theorem terms_arg (s : ByteArray) (w : World) (hs : s.size ≤ maxLen) : Calls Try.prog 7 #[.string s] w fun e w' => e = .returned (.bool true) ∧ Below w.heap.size w w' := by
  unfold maxLen at hs
  exact terms_law s w hs
end Go.Proofs.Ytoffibcplbfokaa
