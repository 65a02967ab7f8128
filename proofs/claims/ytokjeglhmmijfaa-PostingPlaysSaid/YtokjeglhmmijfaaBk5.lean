/-
  Encode, as the program and the document do: nil, or the bytes of a block in new memory; conditions: lengths.
-/
import Derived.Test.YtokjeglhmmijfaaBk4
import Derived.StillTailTactics
namespace Go.Proofs.Ytokjeglhmmijfaa
open Go.RowKit Go.WideShapes Go.ChangeShapes
set_option linter.all false
/-- What Encode answers: nil, or a row of its own with the bytes. -/
def EncPost (xs : List Int) (w : World) (e : Ending) (w' : World) : Prop :=
  ∃ v bs, e = .returned v ∧ Below w.heap.size w w' ∧ Mid w' w.heap.size 5 1 v bs.length (ks .u8 (nb bs)) ∧ bs.length ≤ 100 ∧ (∀ b ∈ bs, b < 256) ∧ ((rightI xs = false ∧ bs = []) ∨ ∃ l, xs = l.map Nat.cast ∧ rightN l = true ∧ bs = encGo 0 l)
/-- The least that may follow behind i ids. -/
def pN (l : List Nat) (i : Nat) : Nat := if i = 0 then 0 else l.getD (i - 1) 0 + 1
theorem enc_split : ∀ (a b : List Nat) (p : Nat), encGo p (a ++ b) = encGo p a ++ encGo (if a = [] then p else a.getLastD 0 + 1) b
  | [], b, p => by simp [encGo]
  | x :: r, b, p => by
    have := enc_split r b (x + 1)
    rw [List.cons_append, encGo, encGo, this, List.append_assoc]
    congr 3
    cases r with
    | nil => rfl
    | cons y r => simp [List.getLastD]
theorem enc_next {l : List Nat} {i : Nat} (h : i < l.length) : encGo 0 (l.take (i + 1)) = encGo 0 (l.take i) ++ numL (l.getD i 0 - pN l i) := by
  have e : l.take (i + 1) = l.take i ++ [l.getD i 0] := by
    rw [List.take_succ_eq_append_getElem h, List.getD_eq_getElem?_getD, List.getElem?_eq_getElem h]; rfl
  rw [e, enc_split]
  congr 1
  rw [encGo, encGo, List.append_nil]
  congr 2
  unfold pN
  by_cases hi : i = 0
  · subst hi; simp
  · rw [if_neg hi, if_neg (by intro h'; have h2 := congrArg List.length h'; rw [List.length_take, Nat.min_eq_left (by omega)] at h2; exact hi h2)]
    congr 1
    have : i - 1 < l.length := by omega
    rw [List.getLastD_eq_getLast?, List.getLast?_take, if_neg hi]
    rw [List.getD_eq_getElem?_getD]
    simp [List.getElem?_eq_getElem this]
theorem asc_at : ∀ (l : List Nat) (p i : Nat), ascB p l = true → i < l.length → l.getD i 0 ≤ 1073741824 ∧ p ≤ l.getD i 0 ∧ (0 < i → l.getD (i - 1) 0 < l.getD i 0)
  | [], _, _, _, h => by simp at h
  | x :: r, p, i, ha, hi => by
    obtain ⟨h1, h2, h3⟩ := ascB_cons.1 ha
    cases i with
    | zero => exact ⟨h2, h1, by omega⟩
    | succ i =>
      have := asc_at r (x + 1) i h3 (by simpa using hi)
      simp only [List.getD_cons_succ]
      refine ⟨this.1, by omega, fun _ => ?_⟩
      cases i with
      | zero => simp only [List.getD_cons_zero, Nat.add_sub_cancel]; omega
      | succ i => simpa using this.2.2 (by omega)
theorem enc_len : ∀ (l : List Nat) (p : Nat), ascB p l = true → (encGo p l).length ≤ 6 * l.length
  | [], _, _ => by simp [encGo]
  | x :: r, p, ha => by
    obtain ⟨h1, h2, h3⟩ := ascB_cons.1 ha
    have a := numL_len 5 (x - p) (by show x - p < 4398046511104; omega)
    have b := enc_len r (x + 1) h3
    rw [encGo, List.length_append, List.length_cons]; omega
theorem mp_at {l : List Nat} {k : Nat} (h : k < l.length) : (l.map Nat.cast : List Int).getD k 0 = ((l.getD k 0 : Nat) : Int) := nb_at h
theorem take_asc : ∀ (l : List Nat) (p i : Nat), ascB p l = true → ascB p (l.take i) = true
  | [], _, _, _ => by simp [ascB]
  | x :: r, p, 0, _ => rfl
  | x :: r, p, i + 1, ha => by
    obtain ⟨h1, h2, h3⟩ := ascB_cons.1 ha
    rw [List.take_succ_cons]
    exact ascB_cons.2 ⟨h1, h2, take_asc r (x + 1) i h3⟩
set_option maxRecDepth 100000 in
set_option maxHeartbeats 800000 in
theorem encode_any (A : Option Addr) (n c : Nat) (xs : List Int) (w : World) (hx : Reads w w.heap.size 1 A n (ks .i64 xs)) (hn : n ≤ 9223372036854775807) :
    Calls Try.prog 32 #[.slice A n c] w (EncPost xs w) := by
  have LX : Hid (xs.length = n) := Lib.hid hx.kl
  cases hr : rightI xs with
  | false =>
    have HR := Lib.hid hr
    clear hr
    go_enter Try.func32, Try.ntmps32
    go_wp2_with (first
      | (go_at_call 43; refine (right_any w.heap.size A n c xs _ hx hn).mono ?_; rintro e w1 ⟨rfl, rfl⟩; rw [HR.out])
      | fail)
    go_ret
    exact ⟨_, [], rfl, Below.refl _ _, Mid.nil _ _ _ _, by simp, by simp, .inl ⟨HR.out, rfl⟩⟩
  | true =>
    have HR := Lib.hid hr
    obtain ⟨l, rfl, hl⟩ := rightI_nat hr
    clear hr
    have LL : Hid (l.length = n) := Lib.hid (by have := LX.out; rwa [List.length_map] at this)
    have HL := Lib.hid hl
    have hl' := hl
    unfold rightN at hl'
    rw [Bool.and_eq_true, decide_eq_true_eq, LL.out] at hl'
    obtain ⟨⟨n1, n16⟩, hasc⟩ := hl'
    have HS := Lib.hid hasc
    clear hl hasc
    have hpos : (0 : Int) < n := by omega
    obtain ⟨ad, rfl, h1⟩ := hx.kat (show 0 < n by omega)
    rw [mp_at (by rw [LL.out]; omega)] at h1
    have h1' : w.cell? ad = some (.int .i64 ((l.getD 0 0 : Nat) : Int)) := by rw [← h1]; rfl
    clear h1
    have H0 := Lib.hid (asc_at l 0 0 HS.out (by rw [LL.out]; omega))
    go_enter Try.func32, Try.ntmps32
    go_wp2_with (first
      | (go_at_call 43; refine (right_any w.heap.size _ n c _ _ hx hn).mono ?_; rintro e w1 ⟨rfl, rfl⟩; rw [HR.out])
      | (go_at_call 44; refine (append_any w1.heap.size (.slice none 0 0) 0 [] (l.getD 0 0) w1 (by have := H0.out.1; omega) (Mid.nil _ _ _ _) (Nat.le_refl _) (by omega)).mono ?_; rintro e w2 ⟨v2, rfl, hm2, hr2⟩)
      | fail)
    have HB2 : Hid (Below w1.heap.size w1 w2) := Lib.hid ((Below.refl _ _).grown hr2.grown (Nat.le_refl _) (by simp [Value.ownBlock]))
    have HM2 : Hid (Mid w2 w1.heap.size 5 1 v2 (encGo 0 (l.take 1)).length (ks .u8 (nb (encGo 0 (l.take 1))))) := Lib.hid (by
      have e : encGo 0 (l.take 1) = numL (l.getD 0 0) := by rw [enc_next (i := 0) (by rw [LL.out]; omega)]; simp [encGo, pN]
      rw [e]; rw [Nat.zero_add, List.nil_append] at hm2; exact hm2)
    clear hm2 hr2
    go_loopw [3, 4] (fun b i wr => ∃ (v1 : Value) (m : Nat), b = v1 ∧ i = .int .i64 ((m : Int) + 1) ∧ m + 1 ≤ n ∧ Hid (Mid wr w1.heap.size 5 1 v1 (encGo 0 (l.take (m + 1))).length (ks .u8 (nb (encGo 0 (l.take (m + 1))))) ∧ Below w1.heap.size w1 wr)) (fun _ i _ => n - (intOf i).toNat)
    case atStart => exact ⟨_, 0, rfl, rfl, by omega, Lib.hid ⟨HM2.out, HB2.out⟩⟩
    case round =>
      clear HM2 HB2
      obtain ⟨v1, m, rfl, rfl, hm, HI⟩ := hrel
      have hel : (encGo 0 (l.take (m + 1))).length ≤ 96 := by
        have a := enc_len (l.take (m + 1)) 0 (take_asc l 0 _ HS.out)
        have b : (l.take (m + 1)).length ≤ 16 := by rw [List.length_take]; have := LL.out; omega
        omega
      by_cases hlt : m + 1 < n
      · obtain ⟨ad', e', k1⟩ := hx.kat hlt
        injection e' with e'
        subst e'
        obtain ⟨ad', e', k0⟩ := hx.kat (show m < n by omega)
        injection e' with e'
        subst e'
        have hb := HI.out.2
        have HA := Lib.hid (asc_at l 0 (m + 1) HS.out (by rw [LL.out]; exact hlt))
        have hp : pN l (m + 1) = l.getD m 0 + 1 := rfl
        have hE := enc_next (l := l) (i := m + 1) (by rw [LL.out]; exact hlt)
        rw [hp] at hE
        have HE := Lib.hid hE
        rw [mp_at (by rw [LL.out]; omega)] at k1 k0
        rw [← hb.cell (by rw [block_of_add]; exact World.block_lt_of_cell? _ _ h1')] at k1 k0
        clear hp hE
        have hyx : l.getD m 0 < l.getD (m + 1) 0 := HA.out.2.2 (by omega)
        have hx9 : l.getD (m + 1) 0 ≤ 1073741824 := HA.out.1
        generalize l.getD (m + 1) 0 = x at *
        generalize l.getD m 0 = y at *
        have k1' : wr.cell? ⟨ad.block, ad.off + (m + 1), none⟩ = some (.int .i64 (x : Int)) := by rw [← k1]; unfold Addr.add; rw [if_neg (by omega)]
        have hm1 : (m : Int) + 1 < n := by omega
        have hm0 : (0 : Int) ≤ m := by omega
        have hm9 : (m : Int) < n := by omega
        have hmn : m < n := by omega
        have HW1 : Hid (IntKind.i64.wrap (m : Int) = (m : Int)) := Lib.hid (IntWalk.i64_in _ (by omega))
        have HW2 : Hid (IntKind.i64.wrap ((x : Int) - y) = (x : Int) - y) := Lib.hid (IntWalk.i64_in _ (by omega))
        have HW3 : Hid (IntKind.i64.wrap ((x : Int) - y - 1) = ((x - (y + 1) : Nat) : Int)) := Lib.hid (by rw [show (x : Int) - y - 1 = ((x - (y + 1) : Nat) : Int) by omega]; exact IntWalk.i64_in _ (by omega))
        clear hb k1
        go_wp2
        have t1' : (0 : Int) ≤ (m : Int) + 1 := by omega
        have t2' : ((m : Int) + 1).toNat = m + 1 := by omega
        have w1' := HW1.out
        have w2' := HW2.out
        have w3' := HW3.out
        refine wp_region_still_tail 12 (by kernel_rfl) (by kernel_rfl) ?_
        simp only [List.take_succ_cons, List.take_zero, List.drop_succ_cons, List.drop_zero]
        refine (show wpStill Try.prog _ wr.drew (fun a' => wpList Try.prog _ _ _ a' wr.drew) _ _ from ?_)
        repeat still_step
        refine wpStill_nil ?_
        clear w1' w2' w3' t1' t2'
        go_wp2_with (first
          | (go_at_call 44; refine (append_any w1.heap.size _ _ (encGo 0 (l.take (m + 1))) (x - (y + 1)) wr.drew (by omega) (HI.out.1.same fun _ _ => rfl) HI.out.2.size (by omega)).mono ?_; rintro e w3 ⟨v3, rfl, hm3, hr3⟩)
          | fail)
        have HN : Hid (Mid w3 w1.heap.size 5 1 v3 (encGo 0 (l.take (m + 1 + 1))).length (ks .u8 (nb (encGo 0 (l.take (m + 1 + 1))))) ∧ Below w1.heap.size w1 w3) := Lib.hid ⟨by rw [HE.out, List.length_append]; exact hm3, HI.out.2.grown hr3.drew.grown HI.out.2.size fun g hg => (HI.out.1.lt g hg).1⟩
        clear hm3 hr3
        go_roundw
        case rel => exact ⟨_, m + 1, rfl, by go_num, by omega, HN⟩
        case measure => simp only [intOf]; omega
      · obtain rfl : m + 1 = n := by omega
        have hnl : ¬ ((m : Int) + 1 < ((m + 1 : Nat) : Int)) := by omega
        go_wp2
        go_ret
        refine ⟨_, encGo 0 (l.take (m + 1)), rfl, HI.out.2, HI.out.1, by omega, encGo_byte _ _, .inr ⟨l, rfl, HL.out, ?_⟩⟩
        rw [List.take_of_length_le (by rw [LL.out]; omega)]
end Go.Proofs.Ytokjeglhmmijfaa
