/-
  The law on keys, walked: no condition.
-/
import Derived.Test.YtjobecgonlmndaaLaws
set_option linter.all false
namespace Go.Proofs.Ytjobecgonlmndaa
open Go.RowKit Go.WideShapes Go.ChangeShapes
theorem bl_irr : ∀ x : List UInt8, Op.bytesLess x x = false
  | [] => rfl
  | a :: x => by simp [Op.bytesLess, bl_irr x]
theorem bl_snoc (z : UInt8) : ∀ x : List UInt8, Op.bytesLess x (x ++ [z]) = true
  | [] => rfl
  | a :: x => by simp [Op.bytesLess, bl_snoc z x]
theorem u8_pos {b : UInt8} (h : b ≠ 0) : (0 : UInt8) < b := by
  have : b.toNat ≠ 0 := fun e => h (UInt8.toNat_inj.1 e)
  rw [UInt8.lt_iff_toNat_lt]; show 0 < b.toNat; omega
theorem bl_next : ∀ s t : List UInt8, (Op.bytesLess t s || t == s) = true ∨ (Op.bytesLess (s ++ [0]) t || (s ++ [0]) == t) = true
  | [], [] => by left; rfl
  | [], [b] => by
    right
    show (Op.bytesLess [0] [b] || [0] == [b]) = true
    simp only [Op.bytesLess]
    by_cases h : b = 0
    · subst h; rfl
    · simp [u8_pos h]
  | [], b :: c :: t => by
    right
    show (Op.bytesLess [0] (b :: c :: t) || [0] == (b :: c :: t)) = true
    simp only [Op.bytesLess]
    by_cases h : b = 0
    · subst h; simp
    · simp [u8_pos h]
  | a :: s, [] => by left; rfl
  | a :: s, b :: t => by
    show (Op.bytesLess (b :: t) (a :: s) || (b :: t) == (a :: s)) = true ∨ (Op.bytesLess (a :: (s ++ [0])) (b :: t) || (a :: (s ++ [0])) == (b :: t)) = true
    simp only [Op.bytesLess]
    by_cases h : a = b
    · subst h
      have := bl_next s t
      simpa using this
    · rcases Nat.lt_or_ge a.toNat b.toNat with q | q
      · right
        have : a < b := UInt8.lt_iff_toNat_lt.2 q
        simp [this]
      · left
        have : b < a := UInt8.lt_iff_toNat_lt.2 (by
          have : a.toNat ≠ b.toNat := fun e => h (UInt8.toNat_inj.1 e)
          omega)
        simp [this]
theorem bl_asym : ∀ x y : List UInt8, Op.bytesLess x y = true → Op.bytesLess y x = false
  | [], [], h => by cases h
  | [], _ :: _, _ => rfl
  | _ :: _, [], h => by cases h
  | a :: x, b :: y, h => by
    simp only [Op.bytesLess, Bool.or_eq_true, decide_eq_true_eq, Bool.and_eq_true, beq_iff_eq] at h
    simp only [Op.bytesLess]
    rcases h with h | ⟨rfl, h⟩
    · have h1 : ¬ b < a := by rw [UInt8.lt_iff_toNat_lt] at h ⊢; omega
      have h2 : ¬ b = a := by rintro rfl; rw [UInt8.lt_iff_toNat_lt] at h; omega
      simp [h1, h2]
    · have := bl_asym x y h
      simp [this]
theorem bl_key : ∀ x y : List UInt8, nz x = true → nz y = true → Op.bytesLess (x ++ [0]) (y ++ [0]) = Op.bytesLess x y
  | [], [], _, _ => rfl
  | [], b :: y, _, hy => by
    simp only [nz, List.all_cons, Bool.and_eq_true, bne_iff_ne, ne_eq] at hy
    have := u8_pos hy.1
    simp [Op.bytesLess, this]
  | a :: x, [], hx, _ => by
    simp only [nz, List.all_cons, Bool.and_eq_true, bne_iff_ne, ne_eq] at hx
    have h1 : ¬ a < 0 := by rw [UInt8.lt_iff_toNat_lt]; exact Nat.not_lt_zero _
    have h2 : (a == 0) = false := by simpa using hx.1
    simp [Op.bytesLess, h1, h2, hx.1]
  | a :: x, b :: y, hx, hy => by
    simp only [nz, List.all_cons, Bool.and_eq_true] at hx hy
    have ih := bl_key x y hx.2 hy.2
    simp [Op.bytesLess, ih]
theorem key_apart : ∀ x y : List UInt8, nz x = true → nz y = true → x ≠ y → com (x ++ [0]) (y ++ [0]) < (x ++ [0]).length
  | [], [], _, _, h => (h rfl).elim
  | [], b :: y, _, hy, _ => by
    simp only [nz, List.all_cons, Bool.and_eq_true, bne_iff_ne, ne_eq] at hy
    have : ¬ (0 : UInt8) = b := fun e => hy.1 e.symm
    simp [com, this]
  | a :: x, [], hx, _, _ => by
    simp only [nz, List.all_cons, Bool.and_eq_true, bne_iff_ne, ne_eq] at hx
    simp [com, hx.1]
  | a :: x, b :: y, hx, hy, h => by
    simp only [nz, List.all_cons, Bool.and_eq_true] at hx hy
    by_cases hab : a = b
    · subst hab
      have := key_apart x y hx.2 hy.2 (fun e => h (by rw [e]))
      simp only [List.cons_append, com, if_pos, List.length_cons]; omega
    · simp [com, hab]
theorem z_list (x : ByteArray) : (x ++ { data := #[0] } : ByteArray).toList = x.toList ++ [0] := by
  rw [ByteArray.toList_eq, ByteArray.toList_eq]; simp [ByteArray.data_append]
theorem z_data (x : ByteArray) : (x ++ { data := #[0] } : ByteArray).data.toList = x.data.toList ++ [0] := by simp [ByteArray.data_append]
theorem nz_of {x : ByteArray} (h : rightL x.data.toList = true) : nz x.data.toList = true := by
  simp only [rightL, Bool.and_eq_true] at h; exact h.2
theorem key_end (x : ByteArray) : endB (x ++ ⟨#[0]⟩) = true := by
  unfold endB Lib.hasSuffix; rw [z_data]; simp
theorem key_cut (x : ByteArray) : cutB (x ++ ⟨#[0]⟩) = x := by
  unfold cutB Lib.trimSuffix
  rw [show Lib.hasSuffix (x ++ ⟨#[0]⟩ : ByteArray).data.toList [0] = true from key_end x, if_pos rfl, z_data]
  apply ByteArray.ext
  simp
theorem key_ofOk {x : ByteArray} (h : rightL x.data.toList = true) : ofOk (x ++ ⟨#[0]⟩) = true := by
  unfold ofOk; rw [key_end, key_cut, h]; rfl
theorem key_ofS {x : ByteArray} (h : rightL x.data.toList = true) : ofS (x ++ ⟨#[0]⟩) = x := by
  unfold ofS; rw [key_ofOk h, if_pos rfl, key_cut]
theorem keyB_yes {x : ByteArray} (h : rightL x.data.toList = true) : keyB x = x ++ ⟨#[0]⟩ := by simp [keyB, h]
theorem key_noRight (x : ByteArray) : rightL (x ++ ⟨#[0]⟩ : ByteArray).data.toList = false := by
  unfold rightL nz; rw [z_data]; simp
set_option maxHeartbeats 4000000 in
theorem keys_no (a b : ByteArray) (runs : ∀ w, Calls Try.prog 16 #[] w fun e w' => e = .returned (.bool true) ∧ Below w.heap.size w w') (w : World) (h : rightL a.data.toList = false) :
    Calls Try.prog 4 #[.string a, .string b] w fun e w' => e = .returned (.bool true) ∧ Below w.heap.size w w' := by
  go_enter Try.func4, Try.ntmps4
  have R : Hid (rightL a.data.toList = false) := h
  have K : Hid (keyB a = ⟨#[]⟩) := keyB_no h
  clear h
  go_wp2_with (first
      | (go_at_call 9; refine (right_any _ _).mono ?_; rintro e w' ⟨rfl, rfl⟩; rw [R.out])
      | (go_at_call 11; refine (key_any _ _).mono ?_; rintro e w' ⟨rfl, rfl⟩; rw [K.out])
      | (go_at_call 16; refine (runs _).mono ?_; rintro e w6 ⟨rfl, hb6⟩)
      | go_in)
  all_goals first
    | (go_ret; exact ⟨rfl, hb6⟩)
theorem key_some (a : ByteArray) : ((a ++ { data := #[0] } : ByteArray).toList == ([] : List UInt8)) = false := by rw [z_list]; simp
set_option maxHeartbeats 4000000 in
theorem keys_half (a b : ByteArray) (runs : ∀ w, Calls Try.prog 16 #[] w fun e w' => e = .returned (.bool true) ∧ Below w.heap.size w w') (w : World) (h : rightL a.data.toList = true) (h2 : rightL b.data.toList = false) :
    Calls Try.prog 4 #[.string a, .string b] w fun e w' => e = .returned (.bool true) ∧ Below w.heap.size w w' := by
  go_enter Try.func4, Try.ntmps4
  have R : Hid (rightL a.data.toList = true) := h
  have R2 : Hid (rightL b.data.toList = false) := h2
  have K : Hid (keyB a = a ++ ⟨#[0]⟩) := keyB_yes h
  have ks := key_some a
  clear h h2
  go_wp2_with (first
      | (go_at_call 9; refine (right_any _ _).mono ?_; rintro e w' ⟨rfl, rfl⟩; first | rw [R.out] | rw [R2.out])
      | (go_at_call 11; refine (key_any _ _).mono ?_; rintro e w' ⟨rfl, rfl⟩; rw [K.out])
      | (go_at_call 16; refine (runs _).mono ?_; rintro e w6 ⟨rfl, hb6⟩)
      | go_in)
  all_goals first
    | (go_ret; exact ⟨rfl, hb6⟩)
    | (exfalso; simp_all; done)
theorem z1 (x : ByteArray) : Op.bytesLess x.toList (x ++ { data := #[0] } : ByteArray).toList = true := by rw [z_list]; exact bl_snoc 0 _
theorem key_comlt {a b : ByteArray} (ha : rightL a.data.toList = true) (hb : rightL b.data.toList = true) (h : a ≠ b) : comB (a ++ ⟨#[0]⟩) (b ++ ⟨#[0]⟩) < (a ++ ⟨#[0]⟩ : ByteArray).size := by
  have := key_apart a.data.toList b.data.toList (nz_of ha) (nz_of hb) (fun e => h (ByteArray.ext (Array.toList_inj.1 e)))
  unfold comB
  rw [← len_list (a ++ ⟨#[0]⟩), z_data, z_data]
  exact this
theorem key_less {a b : ByteArray} (ha : rightL a.data.toList = true) (hb : rightL b.data.toList = true) : Op.bytesLess (a ++ ⟨#[0]⟩ : ByteArray).toList (b ++ ⟨#[0]⟩ : ByteArray).toList = Op.bytesLess a.toList b.toList := by
  rw [z_list, z_list]
  exact bl_key _ _ (by rw [ByteArray.toList_eq]; exact nz_of ha) (by rw [ByteArray.toList_eq]; exact nz_of hb)
theorem toList_ne {a b : ByteArray} (h : a ≠ b) : ¬ a.toList = b.toList := by
  rw [ByteArray.toList_eq, ByteArray.toList_eq]
  exact fun e => h (ByteArray.ext (Array.toList_inj.1 e))
theorem key_ne {a b : ByteArray} (h : a ≠ b) : ¬ (a ++ ⟨#[0]⟩ : ByteArray).toList = (b ++ ⟨#[0]⟩ : ByteArray).toList := by
  rw [z_list, z_list]; intro e; exact toList_ne h (List.append_cancel_right e)
theorem next_le (x y : ByteArray) : (Op.bytesLess y.toList x.toList = true ∨ y.toList = x.toList) ∨ (Op.bytesLess (x ++ { data := #[0] } : ByteArray).toList y.toList = true ∨ (x ++ { data := #[0] } : ByteArray).toList = y.toList) := by
  rcases bl_next x.toList y.toList with h | h
  · left; simpa using h
  · right; rw [z_list]; simpa using h
set_option maxHeartbeats 8000000 in
theorem keys_lo (a b x y : ByteArray) (runs : ∀ w, Calls Try.prog 16 #[] w fun e w' => e = .returned (.bool true) ∧ Below w.heap.size w w') (w : World)
    (la : a.size ≤ 12) (RA : Hid (rightL a.data.toList = true)) (RB : Hid (rightL b.data.toList = true)) (KA : Hid (keyB a = x)) (KB : Hid (keyB b = y)) (OA : Hid (ofOk x = true)) (SA : Hid (ofS x = a)) (NA : Hid (rightL x.data.toList = false))
    (t1 : comB x y < x.size) (t2 : comB x y < y.size) (t3 : (x.extract 0 (comB x y)).toList = (y.extract 0 (comB x y)).toList) (t4 : ¬ (x[comB x y]'t1).toNat = (y[comB x y]'t2).toNat)
    (hc : Op.bytesLess a.toList b.toList = false) (t5 : Op.bytesLess x.toList y.toList = false) (t6 : (a.toList == b.toList) = false) (t7 : (x.toList == y.toList) = false) (t8 : Op.bytesLess a.toList x.toList = true)
    (t9 : (Op.bytesLess b.toList a.toList = true ∨ b.toList = a.toList) ∨ (Op.bytesLess x.toList b.toList = true ∨ x.toList = b.toList))
    (g1 : x.size ≤ 9223372036854775807) (g2 : y.size ≤ 9223372036854775807) (g3 : ¬ 9223372036854775807 < a.size + 1) (NX : Hid (a ++ (⟨#[0]⟩ : ByteArray) = x)) :
    Calls Try.prog 4 #[.string a, .string b] w fun e w' => e = .returned (.bool true) ∧ Below w.heap.size w w' := by
  go_enter Try.func4, Try.ntmps4
  have t1' : ¬ (x.size ≤ comB x y) := by omega
  have t2' : ¬ (y.size ≤ comB x y) := by omega
  have t3' : ((x.extract 0 (comB x y)).toList == (y.extract 0 (comB x y)).toList) = true := by rw [t3]; simp
  have T9 : Hid ((Op.bytesLess b.toList a.toList = true ∨ b.toList = a.toList) ∨ (Op.bytesLess x.toList b.toList = true ∨ x.toList = b.toList)) := t9
  have T8 : Hid (Op.bytesLess a.toList x.toList = true) := t8
  clear t9 t8
  go_wp2_with (first
      | (go_at_call 9; refine (right_any _ _).mono ?_; rintro e w' ⟨rfl, rfl⟩; first | rw [RA.out] | rw [RB.out] | rw [NA.out])
      | (go_at_call 11; refine (key_any _ _).mono ?_; rintro e w' ⟨rfl, rfl⟩; first | rw [KA.out] | rw [KB.out])
      | (go_at_call 7; refine (of_any _ (by assumption) _).mono ?_; rintro e w' ⟨rfl, rfl⟩; rw [OA.out, SA.out])
      | (go_at_call 13; refine (common_any _ _ (by assumption) (by assumption) _).mono ?_; rintro e w1 ⟨rfl, hb1⟩)
      | go_in)
  go_big_region
  have q8 := T8.out
  by_cases q0 : Op.bytesLess b.toList a.toList = true ∨ b.toList = a.toList
  · go_wp2_with (first
      | (go_at_call 9; refine (right_any _ _).mono ?_; rintro e w' ⟨rfl, rfl⟩; rw [NA.out])
      | (go_at_call 15; refine (next_any _ (by assumption) _).mono ?_; rintro e w' ⟨rfl, rfl⟩; rw [NX.out])
      | (go_at_call 16; refine (runs _).mono ?_; rintro e w6 ⟨rfl, hb6⟩)
      | go_in)
    all_goals first
      | (go_ret; exact ⟨rfl, after hb1 (undrew hb6)⟩)
      | (exfalso; simp_all; done)
  · have q9 := T9.out.resolve_left q0
    go_wp2_with (first
      | (go_at_call 9; refine (right_any _ _).mono ?_; rintro e w' ⟨rfl, rfl⟩; rw [NA.out])
      | (go_at_call 15; refine (next_any _ (by assumption) _).mono ?_; rintro e w' ⟨rfl, rfl⟩; rw [NX.out])
      | (go_at_call 16; refine (runs _).mono ?_; rintro e w6 ⟨rfl, hb6⟩)
      | go_in)
    all_goals first
      | (go_ret; exact ⟨rfl, after hb1 (undrew hb6)⟩)
      | (exfalso; simp_all; done)
      | (go_ret; refine ⟨?_, after hb1 (undrew hb6)⟩
         show Ending.returned (Value.bool (_ || (_ || _))) = _
         rcases q9 with q | q <;> simp [q])
set_option maxHeartbeats 8000000 in
theorem keys_hi (a b x y : ByteArray) (runs : ∀ w, Calls Try.prog 16 #[] w fun e w' => e = .returned (.bool true) ∧ Below w.heap.size w w') (w : World)
    (la : a.size ≤ 12) (RA : Hid (rightL a.data.toList = true)) (RB : Hid (rightL b.data.toList = true)) (KA : Hid (keyB a = x)) (KB : Hid (keyB b = y)) (OA : Hid (ofOk x = true)) (SA : Hid (ofS x = a)) (NA : Hid (rightL x.data.toList = false))
    (t1 : comB x y < x.size) (t2 : comB x y < y.size) (t3 : (x.extract 0 (comB x y)).toList = (y.extract 0 (comB x y)).toList) (t4 : ¬ (x[comB x y]'t1).toNat = (y[comB x y]'t2).toNat)
    (hc : Op.bytesLess a.toList b.toList = true) (t5 : Op.bytesLess x.toList y.toList = true) (t6 : (a.toList == b.toList) = false) (t7 : (x.toList == y.toList) = false) (t8 : Op.bytesLess a.toList x.toList = true)
    (t9 : (Op.bytesLess b.toList a.toList = true ∨ b.toList = a.toList) ∨ (Op.bytesLess x.toList b.toList = true ∨ x.toList = b.toList))
    (g1 : x.size ≤ 9223372036854775807) (g2 : y.size ≤ 9223372036854775807) (g3 : ¬ 9223372036854775807 < a.size + 1) (NX : Hid (a ++ (⟨#[0]⟩ : ByteArray) = x)) :
    Calls Try.prog 4 #[.string a, .string b] w fun e w' => e = .returned (.bool true) ∧ Below w.heap.size w w' := by
  go_enter Try.func4, Try.ntmps4
  have t1' : ¬ (x.size ≤ comB x y) := by omega
  have t2' : ¬ (y.size ≤ comB x y) := by omega
  have t3' : ((x.extract 0 (comB x y)).toList == (y.extract 0 (comB x y)).toList) = true := by rw [t3]; simp
  have T9 : Hid ((Op.bytesLess b.toList a.toList = true ∨ b.toList = a.toList) ∨ (Op.bytesLess x.toList b.toList = true ∨ x.toList = b.toList)) := t9
  have T8 : Hid (Op.bytesLess a.toList x.toList = true) := t8
  clear t9 t8
  go_wp2_with (first
      | (go_at_call 9; refine (right_any _ _).mono ?_; rintro e w' ⟨rfl, rfl⟩; first | rw [RA.out] | rw [RB.out] | rw [NA.out])
      | (go_at_call 11; refine (key_any _ _).mono ?_; rintro e w' ⟨rfl, rfl⟩; first | rw [KA.out] | rw [KB.out])
      | (go_at_call 7; refine (of_any _ (by assumption) _).mono ?_; rintro e w' ⟨rfl, rfl⟩; rw [OA.out, SA.out])
      | (go_at_call 13; refine (common_any _ _ (by assumption) (by assumption) _).mono ?_; rintro e w1 ⟨rfl, hb1⟩)
      | go_in)
  go_big_region
  have q8 := T8.out
  by_cases q0 : Op.bytesLess b.toList a.toList = true ∨ b.toList = a.toList
  · go_wp2_with (first
      | (go_at_call 9; refine (right_any _ _).mono ?_; rintro e w' ⟨rfl, rfl⟩; rw [NA.out])
      | (go_at_call 15; refine (next_any _ (by assumption) _).mono ?_; rintro e w' ⟨rfl, rfl⟩; rw [NX.out])
      | (go_at_call 16; refine (runs _).mono ?_; rintro e w6 ⟨rfl, hb6⟩)
      | go_in)
    all_goals first
      | (go_ret; exact ⟨rfl, after hb1 (undrew hb6)⟩)
      | (exfalso; simp_all; done)
  · have q9 := T9.out.resolve_left q0
    go_wp2_with (first
      | (go_at_call 9; refine (right_any _ _).mono ?_; rintro e w' ⟨rfl, rfl⟩; rw [NA.out])
      | (go_at_call 15; refine (next_any _ (by assumption) _).mono ?_; rintro e w' ⟨rfl, rfl⟩; rw [NX.out])
      | (go_at_call 16; refine (runs _).mono ?_; rintro e w6 ⟨rfl, hb6⟩)
      | go_in)
    all_goals first
      | (go_ret; exact ⟨rfl, after hb1 (undrew hb6)⟩)
      | (exfalso; simp_all; done)
      | (go_ret; refine ⟨?_, after hb1 (undrew hb6)⟩
         show Ending.returned (Value.bool (_ || (_ || _))) = _
         rcases q9 with q | q <;> simp [q])
set_option maxHeartbeats 8000000 in
theorem keys_eq (a x : ByteArray) (runs : ∀ w, Calls Try.prog 16 #[] w fun e w' => e = .returned (.bool true) ∧ Below w.heap.size w w') (w : World)
    (la : a.size ≤ 12) (RA : Hid (rightL a.data.toList = true)) (KA : Hid (keyB a = x)) (OA : Hid (ofOk x = true)) (SA : Hid (ofS x = a)) (NA : Hid (rightL x.data.toList = false))
    (hc : Op.bytesLess a.toList a.toList = false) (t5 : Op.bytesLess x.toList x.toList = false) (t8 : Op.bytesLess a.toList x.toList = true)
    (g1 : x.size ≤ 9223372036854775807) (g3 : ¬ 9223372036854775807 < a.size + 1) (NX : Hid (a ++ (⟨#[0]⟩ : ByteArray) = x)) :
    Calls Try.prog 4 #[.string a, .string a] w fun e w' => e = .returned (.bool true) ∧ Below w.heap.size w w' := by
  go_enter Try.func4, Try.ntmps4
  have T8 : Hid (Op.bytesLess a.toList x.toList = true) := t8
  have t6 : (a.toList == a.toList) = true := by simp
  have t7 : (x.toList == x.toList) = true := by simp
  clear t8
  go_wp2_with (first
      | (go_at_call 9; refine (right_any _ _).mono ?_; rintro e w' ⟨rfl, rfl⟩; rw [RA.out])
      | (go_at_call 11; refine (key_any _ _).mono ?_; rintro e w' ⟨rfl, rfl⟩; rw [KA.out])
      | (go_at_call 7; refine (of_any _ (by assumption) _).mono ?_; rintro e w' ⟨rfl, rfl⟩; rw [OA.out, SA.out])
      | (go_at_call 13; refine (common_any _ _ (by assumption) (by assumption) _).mono ?_; rintro e w1 ⟨rfl, hb1⟩)
      | go_in)
  go_big_region
  have q8 := T8.out
  have q0 : Op.bytesLess a.toList a.toList = true ∨ a.toList = a.toList := .inr rfl
  go_wp2_with (first
      | (go_at_call 9; refine (right_any _ _).mono ?_; rintro e w' ⟨rfl, rfl⟩; rw [NA.out])
      | (go_at_call 15; refine (next_any _ (by assumption) _).mono ?_; rintro e w' ⟨rfl, rfl⟩; rw [NX.out])
      | (go_at_call 16; refine (runs _).mono ?_; rintro e w6 ⟨rfl, hb6⟩)
      | go_in)
  all_goals first
      | (go_ret; exact ⟨rfl, after hb1 (undrew hb6)⟩)
      | (exfalso; simp_all; done)
end Go.Proofs.Ytjobecgonlmndaa
