/-
  The document's Terms, and the law that both are the same; no condition beyond a length that fits an int.
-/
import Derived.Test.YtoffibcplbfokaaTk5
namespace Go.Proofs.Ytoffibcplbfokaa
open Go.RowKit Go.WideShapes Go.ChangeShapes
set_option linter.all false
def foldI (l ws : List (List UInt8)) : List (List UInt8) := ws.foldl insL l
theorem foldI_rises : ∀ (ws l : List (List UInt8)), Rises l → Rises (foldI l ws)
  | [], l, h => h
  | x :: r, l, h => foldI_rises r (insL l x) (insL_rises l x h)
theorem foldI_mem : ∀ (ws l : List (List UInt8)) (t : List UInt8), t ∈ foldI l ws ↔ t ∈ ws ∨ t ∈ l
  | [], l, t => by simp [foldI]
  | x :: r, l, t => by
    have := foldI_mem r (insL l x) t
    unfold foldI at this ⊢
    rw [List.foldl_cons, this, insL_mem, List.mem_cons]
    constructor
    · rintro (h | h | h) <;> simp [h]
    · rintro ((h | h) | h) <;> simp [h]
theorem foldI_snoc (l ws : List (List UInt8)) (x : List UInt8) : foldI l (ws ++ [x]) = insL (foldI l ws) x := by simp [foldI]
theorem toks_fold (s : List UInt8) : toks s = foldI [] (words s) := toks_eq (foldI_rises _ _ (by simp [Rises])) fun x => by rw [foldI_mem]; simp
theorem conv_one6 (w : World) (c : UInt8) : (convert 33 9 (.slice (some ⟨w.heap.size, 0, none⟩) 1 1)).run Try.prog (w.alloc (.cells #[.int .u8 (c.toNat : Int)] 5)) = .ok (.string (bt [c])) (w.alloc (.cells #[.int .u8 (c.toNat : Int)] 5)) := by
  have e : bt [c] = strOfNums [(c.toNat : Int)] := (strOf [c]).symm
  rw [e]
  exact run_convert_bytes_arg _ 33 5 Try.underlying33 Try.underlying5 w.heap.size 0 1 1 [(c.toNat : Int)] rfl (fun i hi => by
    obtain rfl : i = 0 := by omega
    exact cell_of_row _ _ 0 #[.int .u8 (c.toNat : Int)] 5 (0, 0) (heap_alloc_new w _)) 9 Try.underlying9
theorem bt_append (a b : List UInt8) : bt a ++ bt b = bt (a ++ b) := ByteArray.ext (by simp [bt, ByteArray.data_append])
/-- A slice that can be read, its room told. -/
def Sl (w : World) (A : Option Addr) (n c : Nat) (L : List (List UInt8)) : Prop := n ≤ c ∧ c ≤ maxLen ∧ (A = none → c = 0) ∧ Reads w w.heap.size 1 A n (strs L)
/-- What the document's loop holds behind k bytes: the words that are done, the letters of the one under way. -/
def RI (s : List UInt8) (k : Nat) (dn : List (List UInt8)) (bs : List UInt8) : Prop :=
  stepW dn bs (s.drop k) = words s ∧ bs.length ≤ k ∧ dn.length ≤ k ∧ (s.length < k → bs = [])
theorem RI.more {s : List UInt8} {k : Nat} {dn : List (List UInt8)} {bs : List UInt8} (h : RI s k dn bs) (hk : k < s.length) (hc : letter (s.getD k 0) ≠ 0) : RI s (k + 1) dn (bs ++ [letter (s.getD k 0)]) := by
  obtain ⟨h1, h2, h3, h4⟩ := h
  exact ⟨by rw [← stepW_more hk hc]; exact h1, by simp; omega, by omega, fun h => by omega⟩
theorem RI.cut {s : List UInt8} {k : Nat} {dn : List (List UInt8)} {bs : List UInt8} (h : RI s k dn bs) (hk : k < s.length) (hc : letter (s.getD k 0) = 0) : RI s (k + 1) (dn ++ cutW bs) [] := by
  obtain ⟨h1, h2, h3, h4⟩ := h
  have hl : (cutW bs).length ≤ 1 := by unfold cutW; split <;> simp
  exact ⟨by rw [← stepW_cut hk hc]; exact h1, by simp, by rw [List.length_append]; omega, fun _ => rfl⟩
theorem RI.last {s : List UInt8} {dn : List (List UInt8)} {bs : List UInt8} (h : RI s s.length dn bs) : RI s (s.length + 1) (dn ++ cutW bs) [] := by
  obtain ⟨h1, h2, h3, h4⟩ := h
  have hl : (cutW bs).length ≤ 1 := by unfold cutW; split <;> simp
  refine ⟨?_, by simp, by rw [List.length_append]; omega, fun _ => rfl⟩
  rw [← h1, stepW_end rfl, List.drop_of_length_le (by omega)]
  unfold stepW; rw [wordsGo]; simp [cutW]
theorem RI.over {s : List UInt8} {k : Nat} {dn : List (List UInt8)} {bs : List UInt8} (h : RI s k dn bs) (hk : s.length < k) : dn = words s := by
  obtain ⟨h1, h2, h3, h4⟩ := h
  have := h4 hk
  subst this
  rw [← h1, List.drop_of_length_le (by omega)]
  unfold stepW; rw [wordsGo]; simp [cutW]
theorem cut_none {bs : List UInt8} (h : (bt (bs.take 12)).size = 0) : cutW bs = [] := by
  have : bs = [] := by cases bs with | nil => rfl | cons a b => rw [bt_size] at h; simp at h
  subst this; rfl
theorem cut_some {bs : List UInt8} (h : (bt (bs.take 12)).size ≠ 0) : cutW bs = [bs.take 12] := by
  unfold cutW; rw [if_neg (by rintro rfl; exact h rfl)]
theorem take12_more {bs : List UInt8} {c : UInt8} (h : (bt (bs.take 12)).size < 12) : bt (bs.take 12) ++ bt [c] = bt ((bs ++ [c]).take 12) := by
  rw [bt_append]
  rw [bt_size, List.length_take] at h
  congr 1
  rw [List.take_of_length_le (by omega : bs.length ≤ 12), List.take_of_length_le (by simp; omega)]
theorem take12_same {bs : List UInt8} {c : UInt8} (h : ¬ (bt (bs.take 12)).size < 12) : (bs ++ [c]).take 12 = bs.take 12 := by
  rw [bt_size, List.length_take] at h
  exact List.take_append_of_le_length (by omega)
set_option maxRecDepth 100000 in
set_option maxHeartbeats 1600000 in
theorem rterms_any (s : ByteArray) (w : World) (hs : s.size ≤ 512) :
    Calls Try.prog 9 #[.string s] w fun e w' => ∃ A n c, e = .returned (.tuple #[.slice A n c, .int .i64 0]) ∧ n = (toks s.data.toList).length ∧ Sl w' A n c (toks s.data.toList) ∧ Below w.heap.size w w' := by
  have hno : ¬ (512 : Int) < s.size := by omega
  have HSL : Hid (s.data.toList.length = s.size) := Lib.hid rfl
  go_enter Try.func9, Try.ntmps9
  go_wp2
  go_loopw [4, 5, 6] (fun o v i wr => ∃ (k : Nat) (dn : List (List UInt8)) (bs : List UInt8) (A : Option Addr) (n c : Nat), o = .slice A n c ∧ v = .string (bt (bs.take 12)) ∧ i = .int .i64 k ∧ k ≤ s.size + 1 ∧ Hid (n = (foldI [] dn).length ∧ n ≤ k ∧ Sl wr A n c (foldI [] dn) ∧ Below w.heap.size w wr ∧ RI s.data.toList k dn bs)) (fun _ _ i _ => s.size + 1 - (intOf i).toNat)
  case atStart => exact ⟨0, [], [], none, 0, 0, rfl, rfl, rfl, by omega, Lib.hid ⟨rfl, Nat.le_refl _, ⟨Nat.le_refl _, by unfold maxLen; omega, fun _ => rfl, Reads.none_⟩, Below.refl _ _, rfl, by simp, by simp, fun _ => rfl⟩⟩
  case round =>
    obtain ⟨k, dn, bs, A, n, c, rfl, rfl, rfl, hk, HI⟩ := hrel
    have hsz12 : (bt (bs.take 12)).size ≤ 12 := by rw [bt_size, List.length_take]; omega
    by_cases hle : k ≤ s.size
    · by_cases hlt : k < s.size
      · have HG : Hid (s[k] = s.data.toList.getD k 0) := Lib.hid (by rw [List.getD_eq_getElem?_getD, List.getElem?_eq_getElem (show k < s.data.toList.length from hlt)]; rfl)
        by_cases hc : letter s[k] = 0
        · have HFc : Hid (RI s.data.toList (k + 1) (dn ++ cutW bs) []) := Lib.hid (by rw [HG.out] at hc; exact HI.out.2.2.2.2.cut hlt hc)
          have HC := Lib.hid hc
          clear hc
          by_cases hw0 : (bt (bs.take 12)).size = 0
          · have HE : Hid (cutW bs = []) := Lib.hid (cut_none hw0)
            have he : bs.take 12 = [] := List.eq_nil_of_length_eq_zero hw0
            have e3 : (bt (bs.take 12)).toList.isEmpty = true := by rw [bt_toList, he]; rfl
            have HE9 : Hid (bt (bs.take 12) = bt (([] : List UInt8).take 12)) := Lib.hid (by rw [he]; rfl)
            clear he
            rw [HE.out, List.append_nil] at HFc
            go_wp2_with (first
              | (go_at_call 12; refine (rletter_any _ _).mono ?_; rintro e w' ⟨rfl, rfl⟩; rw [HC.out])
              | fail)
            go_roundw
            case rel => exact ⟨k + 1, dn, [], A, n, c, rfl, rfl, by go_num, by omega, Lib.hid ⟨HI.out.1, by have := HI.out.2.1; omega, HI.out.2.2.1, HI.out.2.2.2.1, HFc.out⟩⟩
            case measure => simp only [intOf]; omega
          · have HE : Hid (cutW bs = [bs.take 12]) := Lib.hid (cut_some hw0)
            have hne : bs.take 12 ≠ [] := fun e => hw0 (by rw [e]; rfl)
            have e3 : (bt (bs.take 12)).toList.isEmpty = false := by rw [bt_toList]; simpa using hne
            rw [HE.out] at HFc
            clear hne
            go_wp2_with (first
              | (go_at_call 12; refine (rletter_any _ _).mono ?_; rintro e w' ⟨rfl, rfl⟩; rw [HC.out])
              | (go_at_call 19; refine (insert_any A n c (foldI [] dn) (bs.take 12) _ HI.out.2.2.1.2.2.2 (by have := HI.out.2.1; omega) HI.out.2.2.1.1 HI.out.2.2.1.2.1 HI.out.2.2.1.2.2.1).mono ?_
                 rintro e w1 ⟨A1, n1, c1, rfl, hn1, hr1, hm1, ha1, hrd1, hb1⟩
                 have HS1 : Hid (n1 = (foldI [] (dn ++ [bs.take 12])).length ∧ n1 ≤ n + 1 ∧ Sl w1 A1 n1 c1 (foldI [] (dn ++ [bs.take 12]))) := Lib.hid (by
                   rw [foldI_snoc]
                   exact ⟨hn1, by rw [hn1, HI.out.1]; exact insL_len _ _, hr1, hm1, ha1, hrd1⟩)
                 have HB1 := Lib.hid (after HI.out.2.2.2.1 hb1)
                 clear hn1 hr1 hm1 ha1 hrd1 hb1)
              | fail)
            go_roundw
            case rel => exact ⟨k + 1, dn ++ [bs.take 12], [], A1, n1, c1, rfl, rfl, by go_num, by omega, Lib.hid ⟨HS1.out.1, by have := HI.out.2.1; have := HS1.out.2.1; omega, HS1.out.2.2, HB1.out, HFc.out⟩⟩
            case measure => simp only [intOf]; omega
        · have hd : (((letter s[k]).toNat : Int) != 0) = true := by
            have : (letter s[k]).toNat ≠ 0 := fun e => hc (UInt8.toNat_inj.1 e)
            simpa using this
          have HF : Hid (RI s.data.toList (k + 1) dn (bs ++ [letter s[k]])) := Lib.hid (by rw [HG.out] at hc ⊢; exact HI.out.2.2.2.2.more hlt hc)
          clear hc
          by_cases h12 : (bt (bs.take 12)).size < 12
          · have HT := Lib.hid (take12_more (c := letter s[k]) h12)
            have hcv := fun wx => conv_one6 wx (letter s[k])
            have h1 : (bt [letter s[k]]).size = 1 := rfl
            have hlim : ¬ 9223372036854775807 < (bt (bs.take 12)).size + 1 := by omega
            go_wp2_with (first
              | (go_at_call 12; refine (rletter_any _ _).mono ?_; rintro e w' ⟨rfl, rfl⟩)
              | fail)
            go_roundw
            case rel => exact ⟨k + 1, dn, bs ++ [letter s[k]], A, n, c, rfl, congrArg Value.string HT.out, by go_num, by omega, Lib.hid ⟨HI.out.1, by have := HI.out.2.1; omega, ⟨HI.out.2.2.1.1, HI.out.2.2.1.2.1, HI.out.2.2.1.2.2.1, HI.out.2.2.1.2.2.2.onA _⟩, after HI.out.2.2.2.1 (below_alloc _ _), HF.out⟩⟩
            case measure => simp only [intOf]; omega
          · have HT := Lib.hid (take12_same (c := letter s[k]) h12)
            go_wp2_with (first
              | (go_at_call 12; refine (rletter_any _ _).mono ?_; rintro e w' ⟨rfl, rfl⟩)
              | fail)
            go_roundw
            case rel => exact ⟨k + 1, dn, bs ++ [letter s[k]], A, n, c, rfl, by rw [HT.out], by go_num, by omega, Lib.hid ⟨HI.out.1, by have := HI.out.2.1; omega, HI.out.2.2.1, HI.out.2.2.2.1, HF.out⟩⟩
            case measure => simp only [intOf]; omega
      · obtain rfl : s.size = k := by omega
        have HFc : Hid (RI s.data.toList (s.size + 1) (dn ++ cutW bs) []) := Lib.hid HI.out.2.2.2.2.last
        by_cases hw0 : (bt (bs.take 12)).size = 0
        · have HE : Hid (cutW bs = []) := Lib.hid (cut_none hw0)
          have he : bs.take 12 = [] := List.eq_nil_of_length_eq_zero hw0
          have e3 : (bt (bs.take 12)).toList.isEmpty = true := by rw [bt_toList, he]; rfl
          have HE9 : Hid (bt (bs.take 12) = bt (([] : List UInt8).take 12)) := Lib.hid (by rw [he]; rfl)
          clear he
          rw [HE.out, List.append_nil] at HFc
          go_wp2_with (first
            | fail)
          go_roundw
          case rel => exact ⟨s.size + 1, dn, [], A, n, c, rfl, rfl, by go_num, by omega, Lib.hid ⟨HI.out.1, by have := HI.out.2.1; omega, HI.out.2.2.1, HI.out.2.2.2.1, HFc.out⟩⟩
          case measure => simp only [intOf]; omega
        · have HE : Hid (cutW bs = [bs.take 12]) := Lib.hid (cut_some hw0)
          have hne : bs.take 12 ≠ [] := fun e => hw0 (by rw [e]; rfl)
          have e3 : (bt (bs.take 12)).toList.isEmpty = false := by rw [bt_toList]; simpa using hne
          rw [HE.out] at HFc
          clear hne
          go_wp2_with (first
            | (go_at_call 19; refine (insert_any A n c (foldI [] dn) (bs.take 12) _ HI.out.2.2.1.2.2.2 (by have := HI.out.2.1; omega) HI.out.2.2.1.1 HI.out.2.2.1.2.1 HI.out.2.2.1.2.2.1).mono ?_
               rintro e w1 ⟨A1, n1, c1, rfl, hn1, hr1, hm1, ha1, hrd1, hb1⟩
               have HS1 : Hid (n1 = (foldI [] (dn ++ [bs.take 12])).length ∧ n1 ≤ n + 1 ∧ Sl w1 A1 n1 c1 (foldI [] (dn ++ [bs.take 12]))) := Lib.hid (by
                 rw [foldI_snoc]
                 exact ⟨hn1, by rw [hn1, HI.out.1]; exact insL_len _ _, hr1, hm1, ha1, hrd1⟩)
               have HB1 := Lib.hid (after HI.out.2.2.2.1 hb1)
               clear hn1 hr1 hm1 ha1 hrd1 hb1)
            | fail)
          go_roundw
          case rel => exact ⟨s.size + 1, dn ++ [bs.take 12], [], A1, n1, c1, rfl, rfl, by go_num, by omega, Lib.hid ⟨HS1.out.1, by have := HI.out.2.1; have := HS1.out.2.1; omega, HS1.out.2.2, HB1.out, HFc.out⟩⟩
          case measure => simp only [intOf]; omega
    · have HD : Hid (foldI [] dn = toks s.data.toList) := Lib.hid (by rw [HI.out.2.2.2.2.over (by rw [HSL.out]; omega), toks_fold])
      go_wp2
      go_ret2
      exact ⟨A, n, c, rfl, by rw [← HD.out]; exact HI.out.1, by rw [← HD.out]; exact HI.out.2.2.1, HI.out.2.2.2.1⟩
theorem rterms_long (s : ByteArray) (w : World) (hs : ¬ s.size ≤ 512) :
    Calls Try.prog 9 #[.string s] w fun e w' => e = .returned (.tuple #[.slice none 0 0, .int .i64 11]) ∧ w' = w := by
  have hno : (512 : Int) < s.size := by omega
  go_enter Try.func9, Try.ntmps9
  go_wp2
  go_ret2
  exact ⟨rfl, rfl⟩
set_option maxRecDepth 100000 in
set_option maxHeartbeats 1600000 in
theorem tells_any (s : ByteArray) (b : Nat) (hb : b < 256) (w : World) : Calls Try.prog 3 #[.string s, .int .u8 b] w fun e w' => e = .returned (.bool true) ∧ Below w.heap.size w w' := by
  have R1 : Hid True := Lib.hid trivial
  by_cases h6 : (600 : Int) < s.size
  · have hl9 : ¬ (s.extract 0 600).size ≤ 512 := by simp; omega
    go_enter Try.func3, Try.ntmps3
    go_wp2_with (first
      | (go_at_call 8; refine (terms_long _ _ hl9).mono ?_; rintro e w1 ⟨rfl, rfl⟩)
      | (go_at_call 9; refine (rterms_long _ _ hl9).mono ?_; rintro e w1 ⟨rfl, rfl⟩)
      | (go_at_call 10; refine (same_s 0 none none 0 0 0 0 [] [] _ Reads.none_ Reads.none_ (by omega) (by omega)).mono ?_
         rintro e w3 ⟨rfl, hb3⟩
         rw [eqB_self]
         have HB3 := Lib.hid hb3
         clear hb3)
      | (go_at_call 11; refine (letter_n b hb _).mono ?_; rintro e w1 ⟨rfl, rfl⟩)
      | (go_at_call 12; refine (rletter_n b hb _).mono ?_; rintro e w1 ⟨rfl, rfl⟩)
      | (go_at_call 13; refine (runs_any _).mono ?_
         rintro e w4 ⟨rfl, hb4⟩
         have HB4 := Lib.hid (after HB3.out hb4)
         clear hb4)
      | fail)
    go_ret
    exact ⟨rfl, HB4.out⟩
  · by_cases h5 : s.size ≤ 512
    · go_enter Try.func3, Try.ntmps3
      go_wp2_with (first
        | (go_at_call 8; refine (terms_any _ _ h5).mono ?_
           rintro e w1 ⟨v1, rfl, hm1, hb1⟩
           obtain ⟨A1, c1, rfl⟩ := hm1.form
           have HM1 := Lib.hid hm1
           have HB1 := Lib.hid hb1
           clear hm1 hb1)
        | (go_at_call 9; refine (rterms_any _ _ h5).mono ?_
           rintro e w2 ⟨A2, n2, c2, rfl, hn2, hs2, hb2⟩
           have HN2 := Lib.hid hn2
           have HR2 := Lib.hid hs2.2.2.2
           have HB2 := Lib.hid hb2
           clear hs2 hb2 hn2)
        | (go_at_call 10; refine (same_s _ A1 A2 _ n2 c1 c2 (toks s.data.toList) (toks s.data.toList) _ (HM1.out.reads.on HB2.out) HR2.out (by have := toks_len s.data.toList; have : s.data.toList.length = s.size := rfl; omega) (by rw [HN2.out]; have := toks_len s.data.toList; have : s.data.toList.length = s.size := rfl; omega)).mono ?_
           rintro e w3 ⟨rfl, hb3⟩
           rw [eqB_self]
           have HB3 := Lib.hid (after (after HB1.out HB2.out) hb3)
           clear hb3)
        | (go_at_call 11; refine (letter_n b hb _).mono ?_; rintro e w1 ⟨rfl, rfl⟩)
        | (go_at_call 12; refine (rletter_n b hb _).mono ?_; rintro e w1 ⟨rfl, rfl⟩)
        | (go_at_call 13; refine (runs_any _).mono ?_
           rintro e w4 ⟨rfl, hb4⟩
           have HB4 := Lib.hid (after HB3.out hb4)
           clear hb4)
        | fail)
      go_ret
      exact ⟨rfl, HB4.out⟩
    · go_enter Try.func3, Try.ntmps3
      go_wp2_with (first
        | (go_at_call 8; refine (terms_long _ _ h5).mono ?_; rintro e w1 ⟨rfl, rfl⟩)
        | (go_at_call 9; refine (rterms_long _ _ h5).mono ?_; rintro e w1 ⟨rfl, rfl⟩)
        | (go_at_call 10; refine (same_s 0 none none 0 0 0 0 [] [] _ Reads.none_ Reads.none_ (by omega) (by omega)).mono ?_
           rintro e w3 ⟨rfl, hb3⟩
           rw [eqB_self]
           have HB3 := Lib.hid hb3
           clear hb3)
        | (go_at_call 11; refine (letter_n b hb _).mono ?_; rintro e w1 ⟨rfl, rfl⟩)
        | (go_at_call 12; refine (rletter_n b hb _).mono ?_; rintro e w1 ⟨rfl, rfl⟩)
        | (go_at_call 13; refine (runs_any _).mono ?_
           rintro e w4 ⟨rfl, hb4⟩
           have HB4 := Lib.hid (after HB3.out hb4)
           clear hb4)
        | fail)
      go_ret
      exact ⟨rfl, HB4.out⟩
theorem tells_arg (s : ByteArray) (b : Int) (w : World) (hb : (Lit.int .u8 b).wf = true) : Calls Try.prog 3 #[.string s, .int .u8 b] w fun e w' => e = .returned (.bool true) ∧ Below w.heap.size w w' := by
  obtain ⟨n, rfl, hn⟩ : ∃ n : Nat, b = n ∧ n < 256 := by
    have h : (decide (IntKind.u8.min ≤ b) && decide (b ≤ IntKind.u8.max)) = true := hb
    rw [Bool.and_eq_true, decide_eq_true_eq, decide_eq_true_eq] at h
    have e1 : IntKind.u8.min = 0 := rfl
    have e2 : IntKind.u8.max = 255 := rfl
    rw [e1, e2] at h
    exact ⟨b.toNat, by omega, by omega⟩
  exact tells_any s n hn w
end Go.Proofs.Ytoffibcplbfokaa
