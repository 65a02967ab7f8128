/-
  The terms of two texts with a blank between are those of both; condition: both lengths together fit an int.
-/
import Derived.Test.YtoffibcplbfokaaTkR
import Derived.Sort.Walk0
namespace Go.Proofs.Ytoffibcplbfokaa
open Go.RowKit Go.WideShapes Go.ChangeShapes
set_option linter.all false
def hasB (l : List (List UInt8)) (t : List UInt8) : Bool := decide (t ∈ l)
theorem hasB_nil (t : List UInt8) : hasB [] t = false := by simp [hasB]
theorem take_snoc {a : List (List UInt8)} {k : Nat} (h : k < a.length) : a.take (k + 1) = a.take k ++ [a.getD k []] := by
  rw [List.take_succ_eq_append_getElem h, List.getD_eq_getElem?_getD, List.getElem?_eq_getElem h]; rfl
theorem getD_mem {a : List (List UInt8)} {k : Nat} (h : k < a.length) : a.getD k [] ∈ a := by
  rw [List.getD_eq_getElem?_getD, List.getElem?_eq_getElem h]; exact List.getElem_mem h
theorem hasB_next {a : List (List UInt8)} {k : Nat} (h : k < a.length) (t : List UInt8) : hasB (a.take (k + 1)) t = (hasB (a.take k) t || (bt (a.getD k [])).toList == (bt t).toList) := by
  rw [take_snoc h, bt_toList, bt_toList]; unfold hasB
  rw [Bool.eq_iff_iff, Bool.or_eq_true, decide_eq_true_eq, decide_eq_true_eq, List.mem_append, List.mem_singleton, beq_iff_eq, eq_comm (a := t)]
/-- x, y, z are the terms of two texts and of both. -/
structure Join (a b : List UInt8) (x y z : List (List UInt8)) : Prop where
  ex : x = toks a
  ey : y = toks b
  ez : z = toks (a ++ 32 :: b)
theorem Join.mem {a b : List UInt8} {x y z : List (List UInt8)} (h : Join a b x y z) (t : List UInt8) : t ∈ z ↔ t ∈ x ∨ t ∈ y := by
  rw [h.ex, h.ey, h.ez, toks_mem, toks_mem, toks_mem, words_join a b 32 (by decide), List.mem_append]
theorem Join.found {a b : List UInt8} {x y z : List (List UInt8)} (h : Join a b x y z) {k : Nat} (hk : k < z.length) : (hasB x (z.getD k []) || hasB y (z.getD k [])) = true := by
  have := (h.mem _).1 (getD_mem hk)
  unfold hasB
  rcases this with h1 | h1 <;> simp only [decide_eq_true h1, Bool.true_or, Bool.or_true]
theorem Join.word {a b : List UInt8} {x y z : List (List UInt8)} (h : Join a b x y z) {k : Nat} (hk : k < z.length) : wordB (z.getD k []) := by
  have := getD_mem hk
  rw [h.ez] at this hk ⊢
  exact words_word ((toks_mem _ _).1 this)
theorem Join.rise {a b : List UInt8} {x y z : List (List UInt8)} (h : Join a b x y z) {k : Nat} (hk : k + 1 < z.length) : z.getD k [] < z.getD (k + 1) [] := by
  have := toks_rises (a ++ 32 :: b)
  rw [← h.ez] at this
  have := List.pairwise_iff_getElem.1 this k (k + 1) (by omega) hk (by omega)
  rw [List.getD_eq_getElem?_getD, List.getD_eq_getElem?_getD, List.getElem?_eq_getElem (by omega), List.getElem?_eq_getElem hk]
  exact this
theorem Join.back {a b : List UInt8} {x y z : List (List UInt8)} (h : Join a b x y z) {k : Nat} (hk : k < (x ++ y).length) : hasB z ((x ++ y).getD k []) = true := by
  have := getD_mem hk
  rw [List.mem_append] at this
  exact decide_eq_true ((h.mem _).2 this)
theorem beq_flip (x y : List UInt8) : (x == y) = (y == x) := by rw [Bool.eq_iff_iff, beq_iff_eq, beq_iff_eq, eq_comm]
theorem leq_no {s t : List UInt8} (h : t < s) : (Op.bytesLess (bt s).toList (bt t).toList || (bt s).toList == (bt t).toList) = false := by
  rw [bt_toList, bt_toList, Go.Proofs.bytesLess_eq]
  have h1 : ¬ s < t := List.not_lt.2 (List.le_of_lt h)
  have h2 : s ≠ t := by rintro rfl; exact List.lt_irrefl _ h
  rw [decide_eq_false h1, Bool.false_or]; simpa using h2
theorem toks_len (s : List UInt8) : (toks s).length ≤ s.length + 1 := by
  have h1 : (toks s).length ≤ (words s).length := by
    unfold toks
    have := compact_len (srt (words s))
    have h2 : (srt (words s)).length = (words s).length := by unfold srt; rw [List.length_mergeSort]
    omega
  have h3 : ∀ (s w : List UInt8), (wordsGo w s).length ≤ s.length + 1 := by
    intro s; induction s with
    | nil => intro w; rw [wordsGo, cutW]; split <;> simp
    | cons c r ih =>
      intro w; rw [wordsGo]; split
      · have := ih []
        have hc : (cutW w).length ≤ 1 := by unfold cutW; split <;> simp
        rw [List.length_append, List.length_cons]; omega
      · have := ih (w ++ [letter c]); rw [List.length_cons]; omega
  have := h3 s []
  unfold words at h1; omega
/-- A small letter as a capital. -/
def up (c : UInt8) : UInt8 := if 97 ≤ c ∧ c ≤ 122 then c - 32 else c
theorem up_checks : ((List.range 256).all fun n => let c := UInt8.ofNat n; (letter (up c) == letter c) && ((up c).toNat == if 97 ≤ n ∧ n ≤ 122 then n - 32 else n)) = true := by kernel_rfl
theorem up_letter (c : UInt8) : letter (up c) = letter c := by
  have := List.all_eq_true.1 up_checks c.toNat (List.mem_range.2 c.toNat_lt)
  simp only [UInt8.ofNat_toNat, Bool.and_eq_true, beq_iff_eq] at this
  exact this.1
theorem up_nat (c : UInt8) : (up c).toNat = if 97 ≤ c.toNat ∧ c.toNat ≤ 122 then c.toNat - 32 else c.toNat := by
  have := List.all_eq_true.1 up_checks c.toNat (List.mem_range.2 c.toNat_lt)
  simp only [UInt8.ofNat_toNat, Bool.and_eq_true, beq_iff_eq] at this
  exact this.2
theorem toks_up (a : List UInt8) : toks (a.map up) = toks a := toks_map up up_letter a
theorem conv_mid {w : World} {B n c : Nat} {A : Option Addr} {l : List UInt8} (h : Mid w B 5 1 (.slice A n c) n (u8s l)) : (convert 33 9 (.slice A n c)).run Try.prog w = .ok (.string (bt l)) w := by
  have hl : l.length = n := by have := h.1; rw [u8s_len] at this; omega
  rcases Nat.eq_zero_or_pos n with rfl | hn
  · have e : l = [] := List.eq_nil_of_length_eq_zero hl
    subst e
    rcases h.2 with ⟨h', h0⟩ | ⟨g, off, cap, cur, h', _⟩
    · simp only [Value.slice.injEq] at h'
      obtain ⟨rfl, _, rfl⟩ := h'
      exact run_convert_bytes_nil (w := w) 33 5 Try.underlying33 Try.underlying5 0 0 9 Try.underlying9
    · simp only [Value.slice.injEq, true_and] at h'
      obtain ⟨rfl, rfl⟩ := h'
      exact run_convert_bytes_arg w 33 5 Try.underlying33 Try.underlying5 g off 0 c [] rfl (fun i hi => by omega) 9 Try.underlying9
  · have := conv_u8 (c' := c) h hn (Nat.le_refl n)
    rwa [List.take_of_length_le (by omega)] at this
theorem wpList_append_src {P : Program} {w : World} {ops : Array Oper} {rest : List Oper} {o : Oper} {a : Act} {Q : Exit → Act → World → Prop} (hw : Region.wanted o (yielded ops a.tmps) = true) (s x : Operand) (t : TypeId)
    (ho : o.op = .call { callee := .builtin .append, args := #[s, x], argTypes := #[t, t] })
    (base : Nat) (e : TypeId) (i : TypeInfo) (z : Value) (size bytes : Nat) (ht : P.underlying t = some (.slice e)) (hi : P.info? e = some i) (hz : i.zero = some z)
    (hsize : i.size = size) (hby : i.bytes = bytes) (hzs : z.cells.size = size) (hsz : 0 < size) (v : Value) (n : Nat) (xs : List Value) (hs : a.eval s = v) (h : Mid w base e size v n xs)
    (B : Nat) (A : Option Addr) (m c : Nat) (news : List Value) (hx : a.eval x = .slice A m c) (hr : Reads w B size A m news) (h1 : ∀ u ∈ news, u.oneCell' = true)
    (h63 : n + m ≤ maxLen) (hbytes : (n + m) * bytes ≤ 140737488355328) (hbase : base ≤ w.heap.size)
    (hK : ∀ v' w', Mid w' base e size v' (n + m) (xs ++ news) → Ran v v' w w' → wpList P ops Q rest (a.put o.dst v') w') : wpList P ops Q (o :: rest) a w := by
  refine BigFrame.wpList_want hw fun K hK' => ?_
  obtain ⟨v', w', hrun, h2, h3⟩ := run_append_src (P := P) o.type e t i z bytes ht hi hz hsize hby hzs hsz h B A m c news hr h1 h63 hbytes hbase
  unfold Oper.wp execOp
  simp only [ho, resolve, invoke, builtin, Sem.run_bind, Sem.run_pure, Result.andThen_ok, List.map_toArray, List.map_cons, List.map_nil, hs, hx, hrun]
  exact hK' _ _ (hK v' w' h2 h3)
set_option maxRecDepth 100000 in
set_option maxHeartbeats 1600000 in
theorem joins_any (a b : ByteArray) (w : World) (hs : a.size + b.size ≤ 9223372036854775807) : Calls Try.prog 4 #[.string a, .string b] w fun e w' => e = .returned (.bool true) ∧ Below w.heap.size w w' := by
  obtain ⟨i0, hi0, hz0, hz1, hz2⟩ := info_parts infoS
  obtain ⟨i5, hi5, hy0, hy1, hy2⟩ := info_parts infoB
  by_cases hbig : (512 : Int) ≤ a.size + b.size
  · go_enter Try.func4, Try.ntmps4
    go_wp2_with (first
      | (go_at_call 13; refine (runs_any _).mono ?_
         rintro e w4 ⟨rfl, hb4⟩
         have HB4 := Lib.hid hb4
         clear hb4)
      | fail)
    go_ret
    exact ⟨rfl, HB4.out⟩
  · have hlt : (a.size : Int) + b.size < 512 := by omega
    have hl1 : ¬ 9223372036854775807 < a.size + 1 := by omega
    have hl2 : ¬ 9223372036854775807 < a.size + 1 + b.size := by omega
    obtain ⟨X, hX⟩ : ∃ X, X = toks a.data.toList := ⟨_, rfl⟩
    obtain ⟨Y, hY⟩ : ∃ Y, Y = toks b.data.toList := ⟨_, rfl⟩
    obtain ⟨Z, hZ⟩ : ∃ Z, Z = toks (a.data.toList ++ 32 :: b.data.toList) := ⟨_, rfl⟩
    have HJ : Hid (Join a.data.toList b.data.toList X Y Z) := Lib.hid ⟨hX, hY, hZ⟩
    obtain ⟨nx, hnx⟩ : ∃ n, n = X.length := ⟨_, rfl⟩
    obtain ⟨ny, hny⟩ : ∃ n, n = Y.length := ⟨_, rfl⟩
    obtain ⟨nz, hnz⟩ : ∃ n, n = Z.length := ⟨_, rfl⟩
    have HNX := Lib.hid hnx
    have HNY := Lib.hid hny
    have HNZ := Lib.hid hnz
    have hx9 : nx ≤ 600 := by rw [hnx, hX]; have := toks_len a.data.toList; have : a.data.toList.length = a.size := rfl; omega
    have hy9 : ny ≤ 600 := by rw [hny, hY]; have := toks_len b.data.toList; have : b.data.toList.length = b.size := rfl; omega
    have hz9 : nz ≤ 600 := by rw [hnz, hZ]; have := toks_len (a.data.toList ++ 32 :: b.data.toList); rw [List.length_append, List.length_cons] at this; have : a.data.toList.length = a.size := rfl; have : b.data.toList.length = b.size := rfl; omega
    have HX := Lib.hid hX
    have HY := Lib.hid hY
    have HZ := Lib.hid hZ
    clear hX hY hZ hnx hny hnz
    have R1 : Hid True := Lib.hid trivial
    have R2 : Hid True := Lib.hid trivial
    go_enter Try.func4, Try.ntmps4
    go_wp2_with (first
      | (go_at_call 8; clear R1; refine (terms_any a _ (by omega)).mono ?_
         rintro e w1 ⟨v1, rfl, hm1, hb1⟩
         rw [← HX.out, ← HNX.out] at hm1
         obtain ⟨A1, c1, rfl⟩ := hm1.form
         have HM1 := Lib.hid hm1
         have HB1 := Lib.hid hb1
         clear hm1 hb1)
      | (go_at_call 8; clear R2; refine (terms_any b _ (by omega)).mono ?_
         rintro e w2 ⟨v2, rfl, hm2, hb2⟩
         rw [← HY.out, ← HNY.out] at hm2
         obtain ⟨A2, c2, rfl⟩ := hm2.form
         have HM2 := Lib.hid hm2
         have HB2 := Lib.hid hb2
         clear hm2 hb2)
      | (go_at_call 8; refine (terms_any _ _ (by simp only [ByteArray.size_append]; show a.size + 1 + b.size ≤ 512; omega)).mono ?_
         rintro e w3 ⟨v3, rfl, hm3, hb3⟩
         have e9 : (a ++ (⟨#[32]⟩ : ByteArray) ++ b).data.toList = a.data.toList ++ 32 :: b.data.toList := (by simp [ByteArray.data_append])
         rw [e9, ← HZ.out, ← HNZ.out] at hm3
         obtain ⟨A3, c3, rfl⟩ := hm3.form
         have HM3 := Lib.hid hm3
         have HB3 := Lib.hid hb3
         clear hm3 hb3 e9)
      | fail)
    have HRX : Hid (Reads w3 w3.heap.size 1 A1 nx (strs X)) := Lib.hid (HM1.out.reads.on (after HB2.out HB3.out))
    have HRY : Hid (Reads w3 w3.heap.size 1 A2 ny (strs Y)) := Lib.hid (HM2.out.reads.on HB3.out)
    have HRZ : Hid (Reads w3 w3.heap.size 1 A3 nz (strs Z)) := Lib.hid HM3.out.reads
    have HB := Lib.hid (after (after HB1.out HB2.out) HB3.out)
    clear HM1 HM2 HB1 HB2 HB3
    go_loopw [65] (fun i wr => ∃ k : Nat, k ≤ nz ∧ i = .int .i64 k ∧ Below w3.heap.size w3 wr) (fun i _ => nz - (intOf i).toNat)
    case atStart => exact ⟨0, Nat.zero_le _, rfl, Below.refl _ _⟩
    case round =>
      obtain ⟨k, hk, rfl, hbl⟩ := hrel
      by_cases hlt2 : k < nz
      · obtain ⟨ad3, rfl, h3⟩ := (HRZ.out.on hbl).sat hlt2
        have HKZ : Hid (k < Z.length) := Lib.hid (by rw [← HNZ.out]; exact hlt2)
        obtain ⟨t, ht⟩ : ∃ t, t = Z.getD k [] := ⟨_, rfl⟩
        rw [← ht] at h3
        have HT0 := Lib.hid ht
        clear ht
        go_wp2
        go_loopw [13, 72] (fun q j wr2 => ∃ m : Nat, m ≤ nx ∧ j = .int .i64 m ∧ q = .bool (hasB (X.take m) t) ∧ wr2 = wr) (fun _ j _ => nx - (intOf j).toNat)
        case atStart => exact ⟨0, Nat.zero_le _, rfl, by rw [List.take_zero, hasB_nil], rfl⟩
        case round =>
          obtain ⟨m, hm, rfl, rfl, hww⟩ := hrel
          have hww := hww.symm
          subst hww
          by_cases hlt3 : m < nx
          · obtain ⟨ad1, rfl, h1⟩ := (HRX.out.on hbl).sat hlt3
            have HN := Lib.hid (hasB_next (show m < X.length by rw [← HNX.out]; exact hlt3) t)
            cases hq : (hasB (X.take m) t) with
            | true =>
              have HF : Hid ((hasB (X.take (m + 1)) t) = true) := Lib.hid (by rw [HN.out, hq, Bool.true_or])
              go_wp2
              go_roundw
              case rel => exact ⟨m + 1, by omega, by go_num, by rw [HF.out], trivial⟩
              case measure => simp only [intOf]; omega
            | false =>
              have HF : Hid ((hasB (X.take (m + 1)) t) = ((bt (X[m]?.getD [])).toList == (bt t).toList)) := Lib.hid (by rw [HN.out, hq, Bool.false_or, List.getD_eq_getElem?_getD])
              go_wp2
              go_roundw
              case rel => exact ⟨m + 1, by omega, by go_num, by rw [HF.out], trivial⟩
              case measure => simp only [intOf]; omega
          · obtain rfl : nx = m := by omega
            have HT : Hid (X.take nx = X) := Lib.hid (List.take_of_length_le (by rw [← HNX.out]; exact Nat.le_refl _))
            rw [HT.out]
            go_wp2
            go_loopw [13, 85] (fun q j wr2 => ∃ m : Nat, m ≤ ny ∧ j = .int .i64 m ∧ q = .bool (hasB X t || hasB (Y.take m) t) ∧ wr2 = wr) (fun _ j _ => ny - (intOf j).toNat)
            case atStart => exact ⟨0, Nat.zero_le _, rfl, by rw [List.take_zero, hasB_nil]; simp, rfl⟩
            case round =>
              obtain ⟨m, hm, rfl, rfl, hww⟩ := hrel
              have hww := hww.symm
              subst hww
              by_cases hlt3 : m < ny
              · obtain ⟨ad1, rfl, h1⟩ := (HRY.out.on hbl).sat hlt3
                have HN := Lib.hid (hasB_next (show m < Y.length by rw [← HNY.out]; exact hlt3) t)
                cases hq : (hasB X t || hasB (Y.take m) t) with
                | true =>
                  have HF : Hid ((hasB X t || hasB (Y.take (m + 1)) t) = true) := Lib.hid (by rw [HN.out, ← Bool.or_assoc, hq, Bool.true_or])
                  go_wp2
                  go_roundw
                  case rel => exact ⟨m + 1, by omega, by go_num, by rw [HF.out], trivial⟩
                  case measure => simp only [intOf]; omega
                | false =>
                  have HF : Hid ((hasB X t || hasB (Y.take (m + 1)) t) = ((bt (Y[m]?.getD [])).toList == (bt t).toList)) := Lib.hid (by rw [HN.out, ← Bool.or_assoc, hq, Bool.false_or, List.getD_eq_getElem?_getD])
                  go_wp2
                  go_roundw
                  case rel => exact ⟨m + 1, by omega, by go_num, by rw [HF.out], trivial⟩
                  case measure => simp only [intOf]; omega
              · obtain rfl : ny = m := by omega
                have HT : Hid (Y.take ny = Y) := Lib.hid (List.take_of_length_le (by rw [← HNY.out]; exact Nat.le_refl _))
                rw [HT.out]
                have hfound : (hasB X t || hasB Y t) = true := by have := HJ.out.found HKZ.out; rwa [← HT0.out] at this
                rw [hfound]
                clear hfound
                by_cases hk0 : k = 0
                · subst hk0
                  go_wp2_with (first
                    | (go_at_call 14; refine (right_word (by rw [HT0.out]; exact HJ.out.word HKZ.out) _).mono ?_; rintro e w' ⟨rfl, rfl⟩)
                    | fail)
                  go_roundw
                  case rel => exact ⟨0 + 1, by omega, by go_num, hbl⟩
                  case measure => simp only [intOf]; omega
                · have hk1 : (0 : Int) < k := by omega
                  obtain ⟨j, rfl⟩ : ∃ j, k = j + 1 := ⟨k - 1, by omega⟩
                  have hj : j < nz := by omega
                  obtain ⟨adx, ex, h4⟩ := (HRZ.out.on hbl).sat hj
                  injection ex with ex
                  subst ex
                  have hle := leq_no (s := t) (t := Z.getD j []) (by rw [HT0.out]; exact HJ.out.rise (by rw [← HNZ.out]; exact hlt2))
                  rw [List.getD_eq_getElem?_getD] at hle h4
                  go_wp2_with (first
                    | (go_at_call 14; refine (right_word (by rw [HT0.out]; exact HJ.out.word HKZ.out) _).mono ?_; rintro e w' ⟨rfl, rfl⟩)
                    | fail)
                  go_roundw
                  case rel => exact ⟨j + 1 + 1, by omega, by go_num, hbl⟩
                  case measure => simp only [intOf]; omega
      · obtain rfl : nz = k := by omega
        go_wp2_with (first
          | (refine wpList_append_src (by first | rfl | kernel_rfl) (.tmp 117) (.tmp 118) 22 rfl wr.heap.size 9 i0 _ 1 16 Try.underlying22 hi0 hz0 hz1 hz2 rfl (by omega) (.slice (some ⟨wr.heap.size, 0, none⟩) 0 0) 0 _ rfl (Mid.empty (Nat.le_refl _)) _ A1 nx c1 (strs X) rfl ((HRX.out.on hbl).onA _) (strs_one X) (by unfold maxLen; omega) (by omega) (by simp) ?_
             intro v4 w4 hm4 hr4
             have hm4' : Mid w4 wr.heap.size 9 1 v4 nx (strs X) := (by rw [Nat.zero_add, List.nil_append] at hm4; exact hm4)
             obtain ⟨A4, c4, rfl⟩ := hm4'.form
             have HM4 := Lib.hid hm4'
             have HB4 := Lib.hid (below_fresh hr4)
             clear hm4 hm4' hr4)
          | (refine wpList_append_src (by first | rfl | kernel_rfl) (.tmp 119) (.tmp 120) 22 rfl wr.heap.size 9 i0 _ 1 16 Try.underlying22 hi0 hz0 hz1 hz2 rfl (by omega) (.slice A4 nx c4) nx _ rfl HM4.out _ A2 ny c2 (strs Y) rfl ((HRY.out.on hbl).on HB4.out) (strs_one Y) (by unfold maxLen; omega) (by omega) HB4.out.size ?_
             intro v5 w5 hm5 hr5
             have hm5' : Mid w5 wr.heap.size 9 1 v5 (nx + ny) (strs (X ++ Y)) := (by rw [strs_append]; exact hm5)
             obtain ⟨A5, c5, rfl⟩ := hm5'.form
             have HM5 := Lib.hid hm5'
             have HB5 := Lib.hid (HB4.out.grown hr5.grown HB4.out.size (fun g hg => (HM4.out.lt g hg).1))
             clear hm5 hm5' hr5)
          | fail)
        have hbl5 := after hbl HB5.out
        go_loopw [123] (fun i wr2 => ∃ k : Nat, k ≤ nx + ny ∧ i = .int .i64 k ∧ wr2 = w5) (fun i _ => nx + ny - (intOf i).toNat)
        case atStart => exact ⟨0, Nat.zero_le _, rfl, rfl⟩
        case round =>
          obtain ⟨k, hk, rfl, hww⟩ := hrel
          have hww := hww.symm
          subst hww
          clear hbl
          have hbl := hbl5
          by_cases hlt2 : k < nx + ny
          · obtain ⟨ad5, rfl, h3⟩ := HM5.out.reads.sat hlt2
            have HKZ : Hid (k < (X ++ Y).length) := Lib.hid (by rw [List.length_append, ← HNX.out, ← HNY.out]; exact hlt2)
            obtain ⟨t, ht⟩ : ∃ t, t = (X ++ Y).getD k [] := ⟨_, rfl⟩
            rw [← ht] at h3
            have HT0 := Lib.hid ht
            clear ht
            have hlt4 : (k : Int) < (nx : Int) + ny := by omega
            go_wp2
            go_loopw [20, 129] (fun q j wr3 => ∃ m : Nat, m ≤ nz ∧ j = .int .i64 m ∧ q = .bool (hasB (Z.take m) t) ∧ wr3 = w5) (fun _ j _ => nz - (intOf j).toNat)
            case atStart => exact ⟨0, Nat.zero_le _, rfl, by rw [List.take_zero, hasB_nil], rfl⟩
            case round =>
              obtain ⟨m, hm, rfl, rfl, hww⟩ := hrel
              have hww := hww.symm
              subst hww
              by_cases hlt3 : m < nz
              · obtain ⟨ad1, rfl, h1⟩ := (HRZ.out.on hbl).sat hlt3
                have HN := Lib.hid (hasB_next (show m < Z.length by rw [← HNZ.out]; exact hlt3) t)
                cases hq : (hasB (Z.take m) t) with
                | true =>
                  have HF : Hid ((hasB (Z.take (m + 1)) t) = true) := Lib.hid (by rw [HN.out, hq, Bool.true_or])
                  go_wp2
                  go_roundw
                  case rel => exact ⟨m + 1, by omega, by go_num, by rw [HF.out], trivial⟩
                  case measure => simp only [intOf]; omega
                | false =>
                  have HF : Hid ((hasB (Z.take (m + 1)) t) = ((bt (Z[m]?.getD [])).toList == (bt t).toList)) := Lib.hid (by rw [HN.out, hq, Bool.false_or, List.getD_eq_getElem?_getD])
                  go_wp2
                  go_roundw
                  case rel => exact ⟨m + 1, by omega, by go_num, by rw [HF.out]; exact congrArg Value.bool (beq_flip _ _), trivial⟩
                  case measure => simp only [intOf]; omega
              · obtain rfl : nz = m := by omega
                have HT : Hid (Z.take nz = Z) := Lib.hid (List.take_of_length_le (by rw [← HNZ.out]; exact Nat.le_refl _))
                rw [HT.out]
                have hfound : hasB Z t = true := by rw [HT0.out]; exact HJ.out.back HKZ.out
                rw [hfound]
                clear hfound
                go_wp2
                go_roundw
                case rel => exact ⟨k + 1, by omega, by go_num, trivial⟩
                case measure => simp only [intOf]; omega
          · obtain rfl : k = nx + ny := by omega
            have hlt4 : ¬ ((nx : Int) + ny < (nx : Int) + ny) := by omega
            go_wp2
            go_loopw [23, 24] (fun v i wr => ∃ (k : Nat) (V : Value), v = V ∧ k ≤ a.size ∧ i = .int .i64 k ∧ Hid (Mid wr w5.heap.size 5 1 V k (u8s ((a.data.toList.take k).map up)) ∧ Below w5.heap.size w5 wr)) (fun _ i _ => a.size - (intOf i).toNat)
            case atStart => exact ⟨0, _, rfl, Nat.zero_le _, rfl, Lib.hid ⟨Mid.nil _ _ _ _, Below.refl _ _⟩⟩
            case round =>
              obtain ⟨k, V, rfl, hk, rfl, HI⟩ := hrel
              obtain ⟨A6, c6, rfl⟩ := HI.out.1.form
              have hsz6 : w5.heap.size ≤ wr.heap.size := HI.out.2.size
              by_cases hlt5 : k < a.size
              · have HA : Hid (a.data.toList.take (k + 1) = a.data.toList.take k ++ [a[k]]) := Lib.hid (by
                  rw [List.take_succ_eq_append_getElem (show k < a.data.toList.length from hlt5)]; rfl)
                have HUP := Lib.hid (up_nat a[k])
                have hlk : k ≤ 512 := by omega
                have hcl := a[k].toNat_lt
                by_cases h97 : (97 : Int) ≤ (a[k].toNat : Int)
                · by_cases h122 : (a[k].toNat : Int) ≤ 122
                  · have HV : Hid ((a[k].toNat : Int) - 32 = ((up a[k]).toNat : Int)) := Lib.hid (by rw [HUP.out, if_pos ⟨by omega, by omega⟩]; omega)
                    clear hcl
                    go_wp2_with (first
                      | (refine wpList_append_mid rfl (.tmp 160) (.tmp 162) 33 rfl w5.heap.size 5 i5 _ 1 1 Try.underlying33 hi5 hy0 hy1 hy2 rfl (by omega) (.slice A6 k c6) k _ rfl (HI.out.1.same fun g hg => Below.heap_alloc _ _ g (HI.out.1.lt g hg).2) ⟨_, 0, none⟩ 1 1 [.int .u8 _] rfl rfl (World.news_of_block (cs := #[.int .u8 _]) (t := 5) (fr := (0, 0)) (heap_alloc_new _ _)) (by simp [Value.oneCell']) (by unfold maxLen; omega) (by omega) (by simp; omega) ?_
                         intro v' w6 hmm hran
                         have HMM := Lib.hid hmm
                         have HRN := Lib.hid hran
                         clear hmm hran)
                      | fail)
                    have HF : Hid (Mid w6 w5.heap.size 5 1 v' (k + 1) (u8s ((a.data.toList.take (k + 1)).map up)) ∧ Below w5.heap.size w5 w6) := Lib.hid (by
                      have hmm := HMM.out
                      refine ⟨?_, HI.out.2.grown HRN.out.alloc.grown hsz6 (fun g hg => (HI.out.1.lt g hg).1)⟩
                      rw [HA.out, List.map_append, u8s_append]
                      rw [HV.out] at hmm
                      exact hmm)
                    clear HMM HRN
                    go_roundw
                    case rel => exact ⟨k + 1, _, rfl, by omega, by go_num, HF⟩
                    case measure => simp only [intOf]; omega
                  · have HV : Hid ((a[k].toNat : Int) = ((up a[k]).toNat : Int)) := Lib.hid (by rw [HUP.out, if_neg (by omega)])
                    clear hcl
                    go_wp2_with (first
                      | (refine wpList_append_mid rfl (.tmp 160) (.tmp 162) 33 rfl w5.heap.size 5 i5 _ 1 1 Try.underlying33 hi5 hy0 hy1 hy2 rfl (by omega) (.slice A6 k c6) k _ rfl (HI.out.1.same fun g hg => Below.heap_alloc _ _ g (HI.out.1.lt g hg).2) ⟨_, 0, none⟩ 1 1 [.int .u8 _] rfl rfl (World.news_of_block (cs := #[.int .u8 _]) (t := 5) (fr := (0, 0)) (heap_alloc_new _ _)) (by simp [Value.oneCell']) (by unfold maxLen; omega) (by omega) (by simp; omega) ?_
                         intro v' w6 hmm hran
                         have HMM := Lib.hid hmm
                         have HRN := Lib.hid hran
                         clear hmm hran)
                      | fail)
                    have HF : Hid (Mid w6 w5.heap.size 5 1 v' (k + 1) (u8s ((a.data.toList.take (k + 1)).map up)) ∧ Below w5.heap.size w5 w6) := Lib.hid (by
                      have hmm := HMM.out
                      refine ⟨?_, HI.out.2.grown HRN.out.alloc.grown hsz6 (fun g hg => (HI.out.1.lt g hg).1)⟩
                      rw [HA.out, List.map_append, u8s_append]
                      rw [HV.out] at hmm
                      exact hmm)
                    clear HMM HRN
                    go_roundw
                    case rel => exact ⟨k + 1, _, rfl, by omega, by go_num, HF⟩
                    case measure => simp only [intOf]; omega
                · have HV : Hid ((a[k].toNat : Int) = ((up a[k]).toNat : Int)) := Lib.hid (by rw [HUP.out, if_neg (by omega)])
                  clear hcl
                  go_wp2_with (first
                    | (refine wpList_append_mid rfl (.tmp 160) (.tmp 162) 33 rfl w5.heap.size 5 i5 _ 1 1 Try.underlying33 hi5 hy0 hy1 hy2 rfl (by omega) (.slice A6 k c6) k _ rfl (HI.out.1.same fun g hg => Below.heap_alloc _ _ g (HI.out.1.lt g hg).2) ⟨_, 0, none⟩ 1 1 [.int .u8 _] rfl rfl (World.news_of_block (cs := #[.int .u8 _]) (t := 5) (fr := (0, 0)) (heap_alloc_new _ _)) (by simp [Value.oneCell']) (by unfold maxLen; omega) (by omega) (by simp; omega) ?_
                       intro v' w6 hmm hran
                       have HMM := Lib.hid hmm
                       have HRN := Lib.hid hran
                       clear hmm hran)
                    | fail)
                  have HF : Hid (Mid w6 w5.heap.size 5 1 v' (k + 1) (u8s ((a.data.toList.take (k + 1)).map up)) ∧ Below w5.heap.size w5 w6) := Lib.hid (by
                    have hmm := HMM.out
                    refine ⟨?_, HI.out.2.grown HRN.out.alloc.grown hsz6 (fun g hg => (HI.out.1.lt g hg).1)⟩
                    rw [HA.out, List.map_append, u8s_append]
                    rw [HV.out] at hmm
                    exact hmm)
                  clear HMM HRN
                  go_roundw
                  case rel => exact ⟨k + 1, _, rfl, by omega, by go_num, HF⟩
                  case measure => simp only [intOf]; omega
              · obtain rfl : a.size = k := by omega
                have HT : Hid (a.data.toList.take a.size = a.data.toList) := Lib.hid (List.take_of_length_le (Nat.le_refl _))
                have HM6 : Hid (Mid wr w5.heap.size 5 1 (.slice A6 a.size c6) a.size (u8s (a.data.toList.map up))) := Lib.hid (by have := HI.out.1; rw [HT.out] at this; exact this)
                have hconv := conv_mid HM6.out
                have hul : (bt (a.data.toList.map up)).size ≤ 512 := by rw [bt_size, List.length_map]; show a.size ≤ 512; omega
                go_wp2_with (first
                  | (go_at_call 8; refine (terms_any _ _ hul).mono ?_
                     rintro e w7 ⟨v7, rfl, hm7, hb7⟩
                     rw [bt_data, toks_up, ← HX.out, ← HNX.out] at hm7
                     obtain ⟨A7, c7, rfl⟩ := hm7.form
                     have HM7 := Lib.hid hm7
                     have HB7 := Lib.hid (after HI.out.2 hb7)
                     clear hm7 hb7)
                  | (go_at_call 10; refine (same_s _ A7 A1 nx nx c7 c1 X X _ HM7.out.reads (HRX.out.on (after hbl HB7.out)) (by omega) (by omega)).mono ?_
                     rintro e w8 ⟨rfl, hb8⟩
                     rw [eqB_self]
                     have HB8 := Lib.hid (after HB7.out hb8)
                     clear hb8)
                  | (go_at_call 13; refine (runs_any _).mono ?_
                     rintro e w9 ⟨rfl, hb9⟩
                     have HB9 := Lib.hid (after (after HB.out hbl) (after HB8.out hb9))
                     clear hb9)
                  | fail)
                go_ret
                exact ⟨rfl, HB9.out⟩
theorem joins_arg (a b : ByteArray) (w : World) (hs : a.size + b.size ≤ 1048576) : Calls Try.prog 4 #[.string a, .string b] w fun e w' => e = .returned (.bool true) ∧ Below w.heap.size w w' :=
  joins_any a b w (by omega)
end Go.Proofs.Ytoffibcplbfokaa
