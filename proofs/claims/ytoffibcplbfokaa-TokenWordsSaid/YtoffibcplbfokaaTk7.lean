/-
  Words of letters with anything else between are the terms; conditions: what fits an int.
-/
import Derived.Test.YtoffibcplbfokaaTk6
namespace Go.Proofs.Ytoffibcplbfokaa
open Go.RowKit Go.WideShapes Go.ChangeShapes
set_option linter.all false
def wd (n k : Nat) : List UInt8 := (List.range k).map fun j => UInt8.ofNat (97 + (n + j * j) % 26)
theorem wd_succ (n k : Nat) : wd n (k + 1) = wd n k ++ [UInt8.ofNat (97 + (n + k * k) % 26)] := by
  unfold wd; rw [List.range_succ, List.map_append]; rfl
theorem wd_len (n k : Nat) : (wd n k).length = k := by simp [wd]
theorem low_checks : ((List.range 26).all fun m => let c := UInt8.ofNat (97 + m); letter c == c && c != 0 && c.toNat == 97 + m) = true := by kernel_rfl
theorem low_ok (m : Nat) (h : m < 26) : (letter (UInt8.ofNat (97 + m)) == UInt8.ofNat (97 + m) && UInt8.ofNat (97 + m) != 0) = true ∧ (UInt8.ofNat (97 + m)).toNat = 97 + m := by
  have := List.all_eq_true.1 low_checks m (List.mem_range.2 h)
  simp only [Bool.and_eq_true, beq_iff_eq] at this ⊢
  exact ⟨this.1, this.2⟩
theorem wd_letters (n k : Nat) : lettersB (wd n k) = true := by
  unfold lettersB wd
  rw [List.all_eq_true]
  intro c hc
  obtain ⟨j, _, rfl⟩ := List.mem_map.1 hc
  exact (low_ok _ (Nat.mod_lt _ (by omega))).1
/-- The text so far ends with the byte between; its words are these. -/
def WI (c : UInt8) (S : List UInt8) (dn : List (List UInt8)) (i : Nat) : Prop := (∃ S', S = S' ++ [c]) ∧ words S = dn ∧ S.length ≤ 1 + 16 * i ∧ dn.length ≤ i
theorem WI.start {c : UInt8} (hc : letter c = 0) : WI c [c] [] 0 := ⟨⟨[], rfl⟩, by simp [words, wordsGo, hc, cutW], by simp, by simp⟩
theorem WI.next {c : UInt8} {S : List UInt8} {dn : List (List UInt8)} {i n m : Nat} (h : WI c S dn i) (hc : letter c = 0) (hm : m ≤ 15) (h1 : 1 ≤ m) : WI c (S ++ wd n m ++ [c]) (dn ++ [(wd n m).take 12]) (i + 1) := by
  obtain ⟨⟨S', rfl⟩, h2, h3, h4⟩ := h
  refine ⟨⟨S' ++ [c] ++ wd n m, rfl⟩, ?_, by simp [wd_len] at *; omega, by simp; omega⟩
  have e1 : S' ++ [c] ++ wd n m ++ [c] = S' ++ c :: (wd n m ++ c :: []) := by simp
  rw [e1, words_join _ _ _ hc, words_join _ _ _ hc]
  rw [words_join _ _ _ hc] at h2
  have e2 : words ([] : List UInt8) = [] := rfl
  rw [e2, List.append_nil] at h2
  rw [h2, e2, List.append_nil]
  unfold words
  rw [wordsGo_letters _ _ (wd_letters n m), List.nil_append, cutW, if_neg (by intro e; have := congrArg List.length e; rw [wd_len] at this; simp at this; omega)]
theorem ins_sl {L : List (List UInt8)} {x : List UInt8} {w' : World} {N k n : Nat} {v : Value} (hn : n = L.length) (hk : k ≤ n) (h : Mid w' N 9 1 v (0 + k + 1 + (n - k)) ([] ++ strs (L.take k) ++ [.string (bt x)] ++ strs (L.drop k))) (hi : insL L x = L.take k ++ x :: L.drop k) :
    ∃ A m c, v = .slice A m c ∧ m = (insL L x).length ∧ Sl w' A m c (insL L x) := by
  obtain ⟨A, c, rfl⟩ := h.form
  have e1 : 0 + k + 1 + (n - k) = (insL L x).length := by rw [hi, List.length_append, List.length_cons, List.length_take, List.length_drop]; omega
  have e2 : [] ++ strs (L.take k) ++ [Value.string (bt x)] ++ strs (L.drop k) = strs (insL L x) := by rw [hi]; unfold strs; simp
  rw [e2] at h
  rw [e1] at h ⊢
  exact ⟨A, _, c, rfl, rfl, h.room.1, h.room.2, h.nocap, h.reads⟩
theorem bt_min (l : List UInt8) : (bt l).extract 0 (min ((bt l).size : Int) 12).toNat = bt (l.take 12) := by
  have e : (min ((bt l).size : Int) 12).toNat = min l.length 12 := by rw [bt_size]; omega
  rw [e]
  apply ByteArray.ext
  apply Array.ext'
  have : min l.length 12 = min 12 l.length := Nat.min_comm _ _
  simp [bt, ByteArray.data_extract, this, List.take_eq_take_min]
theorem wd_val (n m : Nat) (hn : n < 1073741825) (hm : m ≤ 20) : wrap64 (97 + (wrap64 ((n : Int) + wrap64 ((m : Int) * (m : Int)))).tmod 26) % 256 = ((UInt8.ofNat (97 + (n + m * m) % 26)).toNat : Int) := by
  have h1 : m * m ≤ 400 := Nat.mul_le_mul hm hm
  have e1 : (m : Int) * (m : Int) = ((m * m : Nat) : Int) := by simp
  have w1 : ∀ x : Int, 0 ≤ x → x < 9223372036854775808 → wrap64 x = x := fun x h h9 => by unfold wrap64; omega
  rw [(low_ok _ (Nat.mod_lt _ (by omega))).2, e1, w1 ((m * m : Nat) : Int) (by omega) (by omega), w1 ((n : Int) + ((m * m : Nat) : Int)) (by omega) (by omega)]
  have e2 : ((n : Int) + ((m * m : Nat) : Int)).tmod 26 = (((n + m * m) % 26 : Nat) : Int) := by
    rw [Int.tmod_eq_emod_of_nonneg (by omega)]; omega
  rw [e2, w1 _ (by omega) (by omega)]
  omega
set_option maxRecDepth 100000 in
set_option maxHeartbeats 3200000 in
theorem words_law (AW : Option Addr) (nw cw : Nat) (xs : List Int) (c : UInt8) (w : World) (hr : Reads w w.heap.size 1 AW nw (xs.map (Value.int .i64))) :
    Calls Try.prog 5 #[.slice AW nw cw, .int .u8 (c.toNat : Int)] w fun e w' => e = .returned (.bool true) ∧ Below w.heap.size w w' := by
  obtain ⟨i0, hi0, hz0, hz1, hz2⟩ := info_parts infoS
  by_cases hc : letter c = 0
  · have hd : (((letter c).toNat : Int) != 0) = false := by rw [hc]; rfl
    have HC := Lib.hid hc
    clear hc
    have hcv := fun wx d => conv_one6 wx d
    have HR0 := Lib.hid hr
    clear hr
    have hone : ∀ d : UInt8, (bt [d]).size = 1 := fun _ => rfl
    go_enter Try.func5, Try.ntmps5
    go_wp2_with (first
      | (go_at_call 11; refine (letter_any _ _).mono ?_; rintro e w' ⟨rfl, hw'⟩; rw [hw']; clear hw')
      | fail)
    go_loopw [6, 7, 8] (fun s q i wr => ∃ (k : Nat) (S : List UInt8) (dn : List (List UInt8)) (A : Option Addr) (n cc : Nat), s = .string (bt S) ∧ q = .slice A n cc ∧ i = .int .i64 k ∧ k ≤ 15 ∧ Hid (n = (foldI [] dn).length ∧ n ≤ k ∧ Sl wr A n cc (foldI [] dn) ∧ Below w.heap.size w wr ∧ WI c S dn k)) (fun _ _ i _ => 15 - (intOf i).toNat)
    case atStart => exact ⟨0, [c], [], none, 0, 0, rfl, rfl, rfl, by omega, Lib.hid ⟨rfl, Nat.le_refl _, ⟨Nat.le_refl _, by unfold maxLen; omega, fun _ => rfl, Reads.none_⟩, after (below_alloc _ _) (Below.refl _ _), WI.start HC.out⟩⟩
    case round =>
      obtain ⟨k, S, dn, A, n, cc, rfl, rfl, rfl, hk, HI⟩ := hrel
      by_cases hlt : k < nw ∧ k < 15
      · obtain ⟨hlt1, hlt2⟩ := hlt
        obtain ⟨adW, u, rfl, _, hu, h1⟩ := (HR0.out.on HI.out.2.2.2.1).at_ hlt1
        obtain ⟨z, rfl⟩ : ∃ z, u = .int .i64 z := by
          rw [List.getElem?_map] at hu
          cases hq : xs[k]? with
          | none => rw [hq] at hu; cases hu
          | some z => rw [hq] at hu; injection hu with hu; exact ⟨z, hu.symm⟩
        clear hu
        obtain ⟨n0, hn0, hn9⟩ := withinV_nat z 1073741825 (by omega)
        have HW0 : Hid (withinV z (1073741824 + 1) = (n0 : Int)) := Lib.hid hn0
        clear hn0
        go_wp2_with (first
          | (go_at_call 15; refine (within_any z 1073741824 (by omega) (by omega) _).mono ?_; rintro e w' ⟨rfl, hw'⟩; rw [HW0.out, ← hw']; clear hw')
          | fail)
        go_loopw [9, 11] (fun v j wr2 => ∃ m : Nat, v = .string (bt (wd n0 m)) ∧ j = .int .i64 m ∧ m ≤ 1 + n0 % 15 ∧ Below wr.heap.size wr wr2) (fun _ j _ => 1 + n0 % 15 - (intOf j).toNat)
        case atStart => exact ⟨0, rfl, rfl, by omega, Below.refl _ _⟩
        case round =>
          obtain ⟨m, rfl, rfl, hm, hbl⟩ := hrel
          have hm15 : n0 % 15 < 15 := Nat.mod_lt _ (by omega)
          by_cases hltm : m < 1 + n0 % 15
          · obtain ⟨d, hdd⟩ : ∃ d, d = UInt8.ofNat (97 + (n0 + m * m) % 26) := ⟨_, rfl⟩
            have hval := wd_val n0 m (by omega) (by omega)
            have hcd : ∀ wx : World, (convert 33 9 (.slice (some ⟨wx.heap.size, 0, none⟩) 1 1)).run Try.prog (wx.alloc (.cells #[.int .u8 (wrap64 (97 + (wrap64 ((n0 : Int) + wrap64 ((m : Int) * (m : Int)))).tmod 26) % 256)] 5)) = .ok (.string (bt [d])) (wx.alloc (.cells #[.int .u8 (wrap64 (97 + (wrap64 ((n0 : Int) + wrap64 ((m : Int) * (m : Int)))).tmod 26) % 256)] 5)) := fun wx => by rw [hval, ← hdd]; exact conv_one6 wx d
            have HS : Hid (bt (wd n0 m) ++ bt [d] = bt (wd n0 (m + 1))) := Lib.hid (by rw [bt_append, wd_succ, hdd])
            clear hval hdd
            have hsz : (bt (wd n0 m)).size = m := by rw [bt_size, wd_len]
            have hlim : ¬ 9223372036854775807 < (bt (wd n0 m)).size + 1 := by omega
            clear hsz
            go_wp2
            go_roundw
            case rel => exact ⟨m + 1, congrArg Value.string HS.out, by go_num, by omega, after hbl (below_alloc _ _)⟩
            case measure => simp only [intOf]; omega
          · have hmeq : m = 1 + n0 % 15 := by omega
            have HMM : Hid (1 ≤ m ∧ m ≤ 15) := Lib.hid (by omega)
            have hgd : ¬ ((m : Int) < 1 + (n0 : Int) % 15) := by omega
            clear hmeq hltm hm
            have hszS : (bt S).size ≤ 241 := by rw [bt_size]; have := HI.out.2.2.2.2.2.2.1; omega
            have hszw : (bt (wd n0 m)).size = m := by rw [bt_size, wd_len]
            have hl1 : ¬ 9223372036854775807 < (bt S).size + (bt (wd n0 m)).size := by rw [hszw]; have := HMM.out; omega
            have hl2 : ¬ 9223372036854775807 < (bt S).size + (bt (wd n0 m)).size + 1 := by rw [hszw]; have := HMM.out; omega
            have HW : Hid (WI c (S ++ wd n0 m ++ [c]) (dn ++ [(wd n0 m).take 12]) (k + 1)) := Lib.hid (HI.out.2.2.2.2.next HC.out HMM.out.2 HMM.out.1)
            have HSL := Lib.hid (⟨HI.out.2.2.1.1, HI.out.2.2.1.2.1, HI.out.2.2.1.2.2.1, HI.out.2.2.1.2.2.2.on hbl⟩ : Sl wr A n cc (foldI [] dn))
            have HBB := Lib.hid (after HI.out.2.2.2.1 hbl)
            clear hbl hszw
            have HX1 : Hid ((bt (wd n0 m)).extract 0 (min ((bt (wd n0 m)).size : Int) 12).toNat = bt ((wd n0 m).take 12)) := Lib.hid (bt_min (wd n0 m))
            have HS2 : Hid (bt S ++ bt (wd n0 m) ++ bt [c] = bt (S ++ wd n0 m ++ [c])) := Lib.hid (by rw [bt_append, bt_append])
            obtain ⟨O, hO⟩ : ∃ O, O = foldI [] dn := ⟨_, rfl⟩
            have HL : Hid (n = O.length) := Lib.hid (by rw [hO]; exact HI.out.1)
            obtain ⟨x, hx⟩ : ∃ x, x = (wd n0 m).take 12 := ⟨_, rfl⟩
            rw [← hO] at HSL
            rw [← hx] at HX1 HW
            have HF : Hid (foldI [] (dn ++ [x]) = insL O x) := Lib.hid (by rw [foldI_snoc, ← hO])
            have hn15 : n ≤ 15 := by have := HI.out.2.1; omega
            have hnk : n ≤ k := HI.out.2.1
            obtain ⟨n9, hn9⟩ : ∃ n9, n9 = n := ⟨_, rfl⟩
            have HN9 := Lib.hid hn9
            have hn9k : n9 ≤ k := by omega
            clear hn9
            clear hO hx HI
            go_wp2
            rw [HX1.out]
            go_loop [12] (fun j => ∃ i : Nat, i ≤ n ∧ j = .int .i64 i ∧ Hid (∀ y ∈ O.take i, y < x)) (fun j => n - (intOf j).toNat)
            case atStart => exact ⟨0, by omega, rfl, Lib.hid (by simp)⟩
            case round =>
              obtain ⟨i, hi, rfl, HJ⟩ := hrel
              have HR : Hid (Reads wr wr.heap.size 1 A n (strs O)) := Lib.hid HSL.out.2.2.2
              have hccn : n ≤ cc := HSL.out.1
              by_cases hlt : i < n
              · obtain ⟨ad, rfl, h1⟩ := HR.out.sat hlt
                have hlL : i < O.length := by rw [← HL.out]; exact hlt
                obtain ⟨y, hy⟩ : ∃ y, y = O.getD i [] := ⟨_, rfl⟩
                rw [← hy] at h1
                by_cases hyx : y < x
                · have hb : Op.bytesLess (bt y).toList (bt x).toList = true := by rw [blt_eq]; exact decide_eq_true hyx
                  have HN : Hid (∀ y ∈ O.take (i + 1), y < x) := Lib.hid (by
                    rw [take_snoc hlL, ← hy]
                    intro z hz
                    rw [List.mem_append, List.mem_singleton] at hz
                    rcases hz with hz | rfl
                    · exact HJ.out z hz
                    · exact hyx)
                  clear hy hlL hyx
                  go_wp2
                  go_round
                  case rel => exact ⟨i + 1, by omega, by go_num, HN⟩
                  case measure => simp only [intOf]; omega
                · have hb : Op.bytesLess (bt y).toList (bt x).toList = false := by rw [blt_eq]; exact decide_eq_false hyx
                  have HAT := Lib.hid (insL_at O x i (Nat.le_of_lt hlL) HJ.out (fun _ => by rw [← hy]; exact hyx))
                  have hie : ¬ (i = n) := by omega
                  by_cases hye : y = x
                  · have hq : ((bt y).toList == (bt x).toList) = true := by rw [hye]; simp
                    have HE : Hid (insL O x = O) := Lib.hid (by rw [HAT.out, if_pos ⟨hlL, by rw [← hy]; exact hye⟩])
                    clear hy hlL hyx hye
                    go_wp2
                    go_roundw
                    case rel => exact ⟨k + 1, _, dn ++ [x], _, n, cc, congrArg Value.string HS2.out, rfl, by go_num, by omega, Lib.hid ⟨by rw [HF.out, HE.out]; exact HL.out, by omega, by rw [HF.out, HE.out]; exact HSL.out, HBB.out, HW.out⟩⟩
                    case measure => simp only [intOf]; omega
                  · have hq : ((bt y).toList == (bt x).toList) = false := by rw [bt_toList, bt_toList]; simpa using hye
                    have HE : Hid (insL O x = O.take i ++ x :: O.drop i) := Lib.hid (by rw [HAT.out, if_neg (fun h => hye (by rw [hy]; exact h.2))])
                    clear hy hlL hyx hye
                    go_wp2
                    have hci : ¬ (cc = i) := by omega
                    have g1 : (i : Int) ≤ n := by omega
                    have g2 : (i : Int) ≤ cc := by omega
                    have g3 : (0 : Int) ≤ i := by omega
                    have g4 : (n : Int) ≤ cc := by omega
                    have HA : Hid (∀ w', Below wr.heap.size wr w' → Reads w' wr.heap.size 1 (some ad) (i) (strs (O.take (i)))) := Lib.hid (fun w' hb => ((HR.out.below hb).take_s (k := i) (by omega)))
                    have HBk : Hid (∀ w', Below wr.heap.size wr w' → Reads w' wr.heap.size 1 (some (ad.add i)) (n - i) (strs (O.drop (i)))) := Lib.hid (fun w' hb => by have := (HR.out.below hb).drop_s (k := i) (c := cc) (by omega) (by omega); rw [if_neg hci] at this; exact this)
                    refine wp_region_T (fun _ => True) 12 (by kernel_rfl) ?_
                    have hS : True := trivial
                    refine wpAnyT_take (i := 1) (oi := _) (v := ?_) (by rfl) (by kernel_rfl) (by intro _ _ _ h; exact h) hS (Or.inl ⟨by rfl, ?_⟩) ?_
                    rotate_left 1
                    · intro w' hS'
                      go_simp
                      all_goals with_reducible rfl
                    simp only [Act.put, List.setIfInBounds_toArray, List.set_cons_zero, List.set_cons_succ]
                    refine wpAnyT_take (i := 2) (oi := _) (v := ?_) (by rfl) (by kernel_rfl) (by intro _ _ _ h; exact h) hS (Or.inl ⟨by rfl, ?_⟩) ?_
                    rotate_left 1
                    · intro w' hS'
                      go_simp
                      all_goals with_reducible rfl
                    simp only [Act.put, List.setIfInBounds_toArray, List.set_cons_zero, List.set_cons_succ]
                    refine wpAnyT_take (i := 3) (oi := _) (v := ?_) (by rfl) (by kernel_rfl) (by intro _ _ _ h; exact h) hS (Or.inl ⟨by rfl, ?_⟩) ?_
                    rotate_left 1
                    · intro w' hS'
                      go_simp
                      all_goals with_reducible rfl
                    simp only [Act.put, List.setIfInBounds_toArray, List.set_cons_zero, List.set_cons_succ]
                    refine wpAnyT_take (i := 5) (oi := _) (v := ?_) (by rfl) (by kernel_rfl) (by intro _ _ _ h; exact h) hS (Or.inl ⟨by rfl, ?_⟩) ?_
                    rotate_left 1
                    · intro w' hS'
                      go_simp
                      all_goals with_reducible rfl
                    simp only [Act.put, List.setIfInBounds_toArray, List.set_cons_zero, List.set_cons_succ]
                    refine wpAnyT_take (i := 8) (oi := _) (v := ?_) (by rfl) (by kernel_rfl) (by intro _ _ _ h; exact h) hS (Or.inl ⟨by rfl, ?_⟩) ?_
                    rotate_left 1
                    · intro w' hS'
                      go_simp
                      all_goals with_reducible rfl
                    simp only [Act.put, List.setIfInBounds_toArray, List.set_cons_zero, List.set_cons_succ]
                    refine wpAnyT_take (i := 9) (oi := _) (v := ?_) (by rfl) (by kernel_rfl) (by intro _ _ _ h; exact h) hS (Or.inl ⟨by rfl, ?_⟩) ?_
                    rotate_left 1
                    · intro w' hS'
                      go_simp
                      all_goals with_reducible rfl
                    simp only [Act.put, List.setIfInBounds_toArray, List.set_cons_zero, List.set_cons_succ]
                    refine wpAnyT_take (i := 10) (oi := _) (v := ?_) (by rfl) (by kernel_rfl) (by intro _ _ _ h; exact h) hS (Or.inl ⟨by rfl, ?_⟩) ?_
                    rotate_left 1
                    · intro w' hS'
                      go_simp
                      all_goals with_reducible rfl
                    simp only [Act.put, List.setIfInBounds_toArray, List.set_cons_zero, List.set_cons_succ]
                    have b0 : Below wr.heap.size wr wr.drew := (Below.refl _ _).drew
                    refine wpAnyT_all (rs := [0, 6]) (by kernel_rfl) (by simp) ?_
                    intro ix hix
                    simp only [List.mem_cons, List.not_mem_nil, or_false] at hix
                    rcases hix with rfl | rfl
                    · refine wpT_op (o := _) (by rfl) (fun K hK => ?_)
                      go_simp
                      have b1 := b0.alloc b0.size (.cells #[] 9)
                      have m2 : Mid (wr.drew.alloc (.cells #[] 9)) wr.heap.size 9 1 (.slice (some ⟨wr.heap.size, 0, none⟩) 0 0) 0 [] := by
                        have h := Mid.empty (w := wr.drew) (base := wr.heap.size) (t := 9) b0.size
                        have e : wr.drew.heap.size = wr.heap.size := by simp
                        rw [e] at h; exact h
                      refine hK _ _ (fun _ => trivial) ?_
                      clear hK K
                      try simp only [Act.put, List.setIfInBounds_toArray, List.set_cons_zero, List.set_cons_succ]
                      refine wpAnyT_all (rs := [4, 6]) (by kernel_rfl) (by simp) ?_
                      intro ix hix
                      simp only [List.mem_cons, List.not_mem_nil, or_false] at hix
                      rcases hix with rfl | rfl
                      · refine wpT_op (o := _) (by rfl) (fun K hK => ?_)
                        refine step_append_src (by rfl) _ _ _ (by rfl) wr.heap.size 9 i0 _ 1 16 Try.underlying22 hi0 hz0 hz1 hz2 rfl (by omega) (.slice (some ⟨wr.heap.size, 0, none⟩) 0 0) (0) ([]) (by rfl) m2 wr.heap.size _ _ _ (strs (O.take (i))) (by rfl) (HA.out _ b1) (strs_one _) (by unfold maxLen; omega) (by omega) b1.size ?_
                        intro v3 wq4 hm5 hr6
                        have b7 := b1.grown hr6.grown b1.size (fun g hg => (m2.lt g hg).1)
                        refine hK _ _ (fun _ => trivial) ?_
                        clear hK K
                        try simp only [Act.put, List.setIfInBounds_toArray, List.set_cons_zero, List.set_cons_succ]
                        refine wpAnyT_all (rs := [6]) (by kernel_rfl) (by simp) ?_
                        intro ix hix
                        simp only [List.mem_cons, List.not_mem_nil, or_false] at hix
                        subst hix
                        refine wpT_op (o := _) (by rfl) (fun K hK => ?_)
                        go_simp
                        have b8 := b7.alloc b7.size (.cells #[.string (bt x)] 9)
                        have hl9 : (wq4.alloc (.cells #[.string (bt x)] 9)).cell? ⟨wq4.heap.size, 0, none⟩ = some (.string (bt x)) := World.cell?_alloc_at _ _ _ _ (by simp)
                        have m10 := Mid.alloc_ hm5 (.cells #[.string (bt x)] 9)
                        refine hK _ _ (fun _ => trivial) ?_
                        clear hK K
                        try simp only [Act.put, List.setIfInBounds_toArray, List.set_cons_zero, List.set_cons_succ]
                        refine wpAnyT_all (rs := [7]) (by kernel_rfl) (by simp) ?_
                        intro ix hix
                        simp only [List.mem_cons, List.not_mem_nil, or_false] at hix
                        subst hix
                        refine wpT_op (o := _) (by rfl) (fun K hK => ?_)
                        refine step_append_mid (by rfl) _ _ _ (by rfl) wr.heap.size 9 i0 _ 1 16 Try.underlying22 hi0 hz0 hz1 hz2 rfl (by omega) v3 (0 + i) ([] ++ strs (O.take (i))) (by rfl) m10 ⟨wq4.heap.size, 0, none⟩ 1 1 [.string (bt x)] (by rfl) (by rfl) (news_one hl9) (by simp [Value.oneCell']) (by unfold maxLen; omega) (by omega) b8.size ?_
                        intro v11 wq12 hm13 hr14
                        have b15 := b8.grown hr14.grown b8.size (fun g hg => (m10.lt g hg).1)
                        refine hK _ _ (fun _ => trivial) ?_
                        clear hK K
                        try simp only [Act.put, List.setIfInBounds_toArray, List.set_cons_zero, List.set_cons_succ]
                        refine wpAnyT_all (rs := [11]) (by kernel_rfl) (by simp) ?_
                        intro ix hix
                        simp only [List.mem_cons, List.not_mem_nil, or_false] at hix
                        subst hix
                        refine wpT_op (o := _) (by rfl) (fun K hK => ?_)
                        refine step_append_src (by rfl) _ _ _ (by rfl) wr.heap.size 9 i0 _ 1 16 Try.underlying22 hi0 hz0 hz1 hz2 rfl (by omega) v11 (0 + i + 1) ([] ++ strs (O.take (i)) ++ [.string (bt x)]) (by rfl) hm13 wr.heap.size _ _ _ (strs (O.drop (i))) (by rfl) (HBk.out _ b15) (strs_one _) (by unfold maxLen; omega) (by omega) b15.size ?_
                        intro v16 wq17 hm18 hr19
                        have b20 := b15.grown hr19.grown b15.size (fun g hg => (hm13.lt g hg).1)
                        refine hK _ _ (fun _ => trivial) ?_
                        clear hK K
                        try simp only [Act.put, List.setIfInBounds_toArray, List.set_cons_zero, List.set_cons_succ]
                        refine wpAnyT_all (rs := [12]) (by kernel_rfl) (by simp) ?_
                        intro ix hix
                        simp only [List.mem_cons, List.not_mem_nil, or_false] at hix
                        subst hix
                        refine wpT_op (o := _) (by rfl) (fun K hK => ?_)
                        try go_simp
                        refine hK _ _ (fun h => absurd h (by omega)) ?_
                        clear hK K
                        refine wpAnyT_done (by kernel_rfl) ?_ _
                        have HMz := Lib.hid hm18
                        have HBz := Lib.hid b20
                        clear hm18 b20
                        obtain ⟨Az, nz2, cz, ez, hnz, hsl⟩ := ins_sl HL.out (by omega) HMz.out HE.out
                        have hle2 : nz2 ≤ n9 + 1 := by rw [hnz, HN9.out, HL.out]; exact insL_len _ _
                        have HZ := Lib.hid (⟨hnz, hsl⟩ : nz2 = (insL O x).length ∧ Sl wq17 Az nz2 cz (insL O x))
                        clear hnz hsl HMz
                        subst ez
                        go_wp2
                        go_roundw
                        case rel => exact ⟨k + 1, _, dn ++ [x], Az, nz2, cz, congrArg Value.string HS2.out, rfl, by go_num, by omega, Lib.hid ⟨by rw [HF.out]; exact HZ.out.1, by omega, by rw [HF.out]; exact HZ.out.2, after HBB.out HBz.out, HW.out⟩⟩
                        case measure => simp only [intOf]; omega
                      · refine wpT_op (o := _) (by rfl) (fun K hK => ?_)
                        go_simp
                        have b21 := b1.alloc b1.size (.cells #[.string (bt x)] 9)
                        have hl22 : ((wr.drew.alloc (.cells #[] 9)).alloc (.cells #[.string (bt x)] 9)).cell? ⟨wr.heap.size + 1, 0, none⟩ = some (.string (bt x)) := World.cell?_alloc_at _ _ _ _ (by simp)
                        have m23 := Mid.alloc_ m2 (.cells #[.string (bt x)] 9)
                        refine hK _ _ (fun _ => trivial) ?_
                        clear hK K
                        try simp only [Act.put, List.setIfInBounds_toArray, List.set_cons_zero, List.set_cons_succ]
                        refine wpAnyT_all (rs := [4]) (by kernel_rfl) (by simp) ?_
                        intro ix hix
                        simp only [List.mem_cons, List.not_mem_nil, or_false] at hix
                        subst hix
                        refine wpT_op (o := _) (by rfl) (fun K hK => ?_)
                        refine step_append_src (by rfl) _ _ _ (by rfl) wr.heap.size 9 i0 _ 1 16 Try.underlying22 hi0 hz0 hz1 hz2 rfl (by omega) (.slice (some ⟨wr.heap.size, 0, none⟩) 0 0) (0) ([]) (by rfl) m23 wr.heap.size _ _ _ (strs (O.take (i))) (by rfl) (HA.out _ b21) (strs_one _) (by unfold maxLen; omega) (by omega) b21.size ?_
                        intro v24 wq25 hm26 hr27
                        have b28 := b21.grown hr27.grown b21.size (fun g hg => (m23.lt g hg).1)
                        have hl29 := ran_cell hr27 m23 hl22 (by simp [Value.ownBlock])
                        refine hK _ _ (fun _ => trivial) ?_
                        clear hK K
                        try simp only [Act.put, List.setIfInBounds_toArray, List.set_cons_zero, List.set_cons_succ]
                        refine wpAnyT_all (rs := [7]) (by kernel_rfl) (by simp) ?_
                        intro ix hix
                        simp only [List.mem_cons, List.not_mem_nil, or_false] at hix
                        subst hix
                        refine wpT_op (o := _) (by rfl) (fun K hK => ?_)
                        refine step_append_mid (by rfl) _ _ _ (by rfl) wr.heap.size 9 i0 _ 1 16 Try.underlying22 hi0 hz0 hz1 hz2 rfl (by omega) v24 (0 + i) ([] ++ strs (O.take (i))) (by rfl) hm26 ⟨wr.heap.size + 1, 0, none⟩ 1 1 [.string (bt x)] (by rfl) (by rfl) (news_one hl29) (by simp [Value.oneCell']) (by unfold maxLen; omega) (by omega) b28.size ?_
                        intro v30 wq31 hm32 hr33
                        have b34 := b28.grown hr33.grown b28.size (fun g hg => (hm26.lt g hg).1)
                        refine hK _ _ (fun _ => trivial) ?_
                        clear hK K
                        try simp only [Act.put, List.setIfInBounds_toArray, List.set_cons_zero, List.set_cons_succ]
                        refine wpAnyT_all (rs := [11]) (by kernel_rfl) (by simp) ?_
                        intro ix hix
                        simp only [List.mem_cons, List.not_mem_nil, or_false] at hix
                        subst hix
                        refine wpT_op (o := _) (by rfl) (fun K hK => ?_)
                        refine step_append_src (by rfl) _ _ _ (by rfl) wr.heap.size 9 i0 _ 1 16 Try.underlying22 hi0 hz0 hz1 hz2 rfl (by omega) v30 (0 + i + 1) ([] ++ strs (O.take (i)) ++ [.string (bt x)]) (by rfl) hm32 wr.heap.size _ _ _ (strs (O.drop (i))) (by rfl) (HBk.out _ b34) (strs_one _) (by unfold maxLen; omega) (by omega) b34.size ?_
                        intro v35 wq36 hm37 hr38
                        have b39 := b34.grown hr38.grown b34.size (fun g hg => (hm32.lt g hg).1)
                        refine hK _ _ (fun _ => trivial) ?_
                        clear hK K
                        try simp only [Act.put, List.setIfInBounds_toArray, List.set_cons_zero, List.set_cons_succ]
                        refine wpAnyT_all (rs := [12]) (by kernel_rfl) (by simp) ?_
                        intro ix hix
                        simp only [List.mem_cons, List.not_mem_nil, or_false] at hix
                        subst hix
                        refine wpT_op (o := _) (by rfl) (fun K hK => ?_)
                        try go_simp
                        refine hK _ _ (fun h => absurd h (by omega)) ?_
                        clear hK K
                        refine wpAnyT_done (by kernel_rfl) ?_ _
                        have HMz := Lib.hid hm37
                        have HBz := Lib.hid b39
                        clear hm37 b39
                        obtain ⟨Az, nz2, cz, ez, hnz, hsl⟩ := ins_sl HL.out (by omega) HMz.out HE.out
                        have hle2 : nz2 ≤ n9 + 1 := by rw [hnz, HN9.out, HL.out]; exact insL_len _ _
                        have HZ := Lib.hid (⟨hnz, hsl⟩ : nz2 = (insL O x).length ∧ Sl wq36 Az nz2 cz (insL O x))
                        clear hnz hsl HMz
                        subst ez
                        go_wp2
                        go_roundw
                        case rel => exact ⟨k + 1, _, dn ++ [x], Az, nz2, cz, congrArg Value.string HS2.out, rfl, by go_num, by omega, Lib.hid ⟨by rw [HF.out]; exact HZ.out.1, by omega, by rw [HF.out]; exact HZ.out.2, after HBB.out HBz.out, HW.out⟩⟩
                        case measure => simp only [intOf]; omega
                    · refine wpT_op (o := _) (by rfl) (fun K hK => ?_)
                      go_simp
                      have b40 := b0.alloc b0.size (.cells #[.string (bt x)] 9)
                      have hl41 : (wr.drew.alloc (.cells #[.string (bt x)] 9)).cell? ⟨wr.heap.size, 0, none⟩ = some (.string (bt x)) := World.cell?_alloc_at _ _ _ _ (by simp)
                      refine hK _ _ (fun _ => trivial) ?_
                      clear hK K
                      try simp only [Act.put, List.setIfInBounds_toArray, List.set_cons_zero, List.set_cons_succ]
                      refine wpAnyT_all (rs := [0]) (by kernel_rfl) (by simp) ?_
                      intro ix hix
                      simp only [List.mem_cons, List.not_mem_nil, or_false] at hix
                      subst hix
                      refine wpT_op (o := _) (by rfl) (fun K hK => ?_)
                      go_simp
                      have b42 := b40.alloc b40.size (.cells #[] 9)
                      have m43 : Mid ((wr.drew.alloc (.cells #[.string (bt x)] 9)).alloc (.cells #[] 9)) wr.heap.size 9 1 (.slice (some ⟨wr.heap.size + 1, 0, none⟩) 0 0) 0 [] := by
                        have h := Mid.empty (w := (wr.drew.alloc (.cells #[.string (bt x)] 9))) (base := wr.heap.size) (t := 9) b40.size
                        have e : (wr.drew.alloc (.cells #[.string (bt x)] 9)).heap.size = wr.heap.size + 1 := by simp
                        rw [e] at h; exact h
                      have hl44 : ((wr.drew.alloc (.cells #[.string (bt x)] 9)).alloc (.cells #[] 9)).cell? ⟨wr.heap.size, 0, none⟩ = some (.string (bt x)) := (World.cell?_alloc_lt _ _ _ (by simp)).trans hl41
                      refine hK _ _ (fun _ => trivial) ?_
                      clear hK K
                      try simp only [Act.put, List.setIfInBounds_toArray, List.set_cons_zero, List.set_cons_succ]
                      refine wpAnyT_all (rs := [4]) (by kernel_rfl) (by simp) ?_
                      intro ix hix
                      simp only [List.mem_cons, List.not_mem_nil, or_false] at hix
                      subst hix
                      refine wpT_op (o := _) (by rfl) (fun K hK => ?_)
                      refine step_append_src (by rfl) _ _ _ (by rfl) wr.heap.size 9 i0 _ 1 16 Try.underlying22 hi0 hz0 hz1 hz2 rfl (by omega) (.slice (some ⟨wr.heap.size + 1, 0, none⟩) 0 0) (0) ([]) (by rfl) m43 wr.heap.size _ _ _ (strs (O.take (i))) (by rfl) (HA.out _ b42) (strs_one _) (by unfold maxLen; omega) (by omega) b42.size ?_
                      intro v45 wq46 hm47 hr48
                      have b49 := b42.grown hr48.grown b42.size (fun g hg => (m43.lt g hg).1)
                      have hl50 := ran_cell hr48 m43 hl44 (by simp [Value.ownBlock])
                      refine hK _ _ (fun _ => trivial) ?_
                      clear hK K
                      try simp only [Act.put, List.setIfInBounds_toArray, List.set_cons_zero, List.set_cons_succ]
                      refine wpAnyT_all (rs := [7]) (by kernel_rfl) (by simp) ?_
                      intro ix hix
                      simp only [List.mem_cons, List.not_mem_nil, or_false] at hix
                      subst hix
                      refine wpT_op (o := _) (by rfl) (fun K hK => ?_)
                      refine step_append_mid (by rfl) _ _ _ (by rfl) wr.heap.size 9 i0 _ 1 16 Try.underlying22 hi0 hz0 hz1 hz2 rfl (by omega) v45 (0 + i) ([] ++ strs (O.take (i))) (by rfl) hm47 ⟨wr.heap.size, 0, none⟩ 1 1 [.string (bt x)] (by rfl) (by rfl) (news_one hl50) (by simp [Value.oneCell']) (by unfold maxLen; omega) (by omega) b49.size ?_
                      intro v51 wq52 hm53 hr54
                      have b55 := b49.grown hr54.grown b49.size (fun g hg => (hm47.lt g hg).1)
                      refine hK _ _ (fun _ => trivial) ?_
                      clear hK K
                      try simp only [Act.put, List.setIfInBounds_toArray, List.set_cons_zero, List.set_cons_succ]
                      refine wpAnyT_all (rs := [11]) (by kernel_rfl) (by simp) ?_
                      intro ix hix
                      simp only [List.mem_cons, List.not_mem_nil, or_false] at hix
                      subst hix
                      refine wpT_op (o := _) (by rfl) (fun K hK => ?_)
                      refine step_append_src (by rfl) _ _ _ (by rfl) wr.heap.size 9 i0 _ 1 16 Try.underlying22 hi0 hz0 hz1 hz2 rfl (by omega) v51 (0 + i + 1) ([] ++ strs (O.take (i)) ++ [.string (bt x)]) (by rfl) hm53 wr.heap.size _ _ _ (strs (O.drop (i))) (by rfl) (HBk.out _ b55) (strs_one _) (by unfold maxLen; omega) (by omega) b55.size ?_
                      intro v56 wq57 hm58 hr59
                      have b60 := b55.grown hr59.grown b55.size (fun g hg => (hm53.lt g hg).1)
                      refine hK _ _ (fun _ => trivial) ?_
                      clear hK K
                      try simp only [Act.put, List.setIfInBounds_toArray, List.set_cons_zero, List.set_cons_succ]
                      refine wpAnyT_all (rs := [12]) (by kernel_rfl) (by simp) ?_
                      intro ix hix
                      simp only [List.mem_cons, List.not_mem_nil, or_false] at hix
                      subst hix
                      refine wpT_op (o := _) (by rfl) (fun K hK => ?_)
                      try go_simp
                      refine hK _ _ (fun h => absurd h (by omega)) ?_
                      clear hK K
                      refine wpAnyT_done (by kernel_rfl) ?_ _
                      have HMz := Lib.hid hm58
                      have HBz := Lib.hid b60
                      clear hm58 b60
                      obtain ⟨Az, nz2, cz, ez, hnz, hsl⟩ := ins_sl HL.out (by omega) HMz.out HE.out
                      have hle2 : nz2 ≤ n9 + 1 := by rw [hnz, HN9.out, HL.out]; exact insL_len _ _
                      have HZ := Lib.hid (⟨hnz, hsl⟩ : nz2 = (insL O x).length ∧ Sl wq57 Az nz2 cz (insL O x))
                      clear hnz hsl HMz
                      subst ez
                      go_wp2
                      go_roundw
                      case rel => exact ⟨k + 1, _, dn ++ [x], Az, nz2, cz, congrArg Value.string HS2.out, rfl, by go_num, by omega, Lib.hid ⟨by rw [HF.out]; exact HZ.out.1, by omega, by rw [HF.out]; exact HZ.out.2, after HBB.out HBz.out, HW.out⟩⟩
                      case measure => simp only [intOf]; omega
              · obtain rfl : n = i := by omega
                have HE : Hid (insL O x = O.take n ++ x :: O.drop n) := Lib.hid (by
                  rw [insL_at O x n (by rw [HL.out]; exact Nat.le_refl _) HJ.out (fun h => absurd h (by rw [HL.out]; omega)), if_neg (fun h => by have := h.1; rw [HL.out] at this; omega)])
                have g3 : (0 : Int) ≤ n := by omega
                have g4 : (n : Int) ≤ cc := by omega
                by_cases hcn : cc = n
                · subst hcn
                  cases A with
                  | none =>
                    go_wp2
                    have HA : Hid (∀ w', Below wr.heap.size wr w' → Reads w' wr.heap.size 1 (none) (cc) (strs (O.take (cc)))) := Lib.hid (fun w' hb => ((HR.out.below hb).take_s (k := cc) (by omega)))
                    have HBk : Hid (∀ w', Below wr.heap.size wr w' → Reads w' wr.heap.size 1 none 0 (strs (O.drop (cc)))) := Lib.hid (fun w' hb => by have := (HR.out.below hb).drop_s (k := cc) (c := cc) (by omega) (by omega); rw [if_pos rfl, Nat.sub_self] at this; exact this)
                    refine wp_region_T (fun _ => True) 12 (by kernel_rfl) ?_
                    have hS : True := trivial
                    refine wpAnyT_take (i := 1) (oi := _) (v := ?_) (by rfl) (by kernel_rfl) (by intro _ _ _ h; exact h) hS (Or.inl ⟨by rfl, ?_⟩) ?_
                    rotate_left 1
                    · intro w' hS'
                      go_simp
                      all_goals with_reducible rfl
                    simp only [Act.put, List.setIfInBounds_toArray, List.set_cons_zero, List.set_cons_succ]
                    refine wpAnyT_take (i := 2) (oi := _) (v := ?_) (by rfl) (by kernel_rfl) (by intro _ _ _ h; exact h) hS (Or.inl ⟨by rfl, ?_⟩) ?_
                    rotate_left 1
                    · intro w' hS'
                      go_simp
                      all_goals with_reducible rfl
                    simp only [Act.put, List.setIfInBounds_toArray, List.set_cons_zero, List.set_cons_succ]
                    refine wpAnyT_take (i := 3) (oi := _) (v := ?_) (by rfl) (by kernel_rfl) (by intro _ _ _ h; exact h) hS (Or.inl ⟨by rfl, ?_⟩) ?_
                    rotate_left 1
                    · intro w' hS'
                      go_simp
                      all_goals with_reducible rfl
                    simp only [Act.put, List.setIfInBounds_toArray, List.set_cons_zero, List.set_cons_succ]
                    refine wpAnyT_take (i := 5) (oi := _) (v := ?_) (by rfl) (by kernel_rfl) (by intro _ _ _ h; exact h) hS (Or.inl ⟨by rfl, ?_⟩) ?_
                    rotate_left 1
                    · intro w' hS'
                      go_simp
                      all_goals with_reducible rfl
                    simp only [Act.put, List.setIfInBounds_toArray, List.set_cons_zero, List.set_cons_succ]
                    refine wpAnyT_take (i := 8) (oi := _) (v := ?_) (by rfl) (by kernel_rfl) (by intro _ _ _ h; exact h) hS (Or.inl ⟨by rfl, ?_⟩) ?_
                    rotate_left 1
                    · intro w' hS'
                      go_simp
                      all_goals with_reducible rfl
                    simp only [Act.put, List.setIfInBounds_toArray, List.set_cons_zero, List.set_cons_succ]
                    refine wpAnyT_take (i := 9) (oi := _) (v := ?_) (by rfl) (by kernel_rfl) (by intro _ _ _ h; exact h) hS (Or.inl ⟨by rfl, ?_⟩) ?_
                    rotate_left 1
                    · intro w' hS'
                      go_simp
                      all_goals with_reducible rfl
                    simp only [Act.put, List.setIfInBounds_toArray, List.set_cons_zero, List.set_cons_succ]
                    refine wpAnyT_take (i := 10) (oi := _) (v := ?_) (by rfl) (by kernel_rfl) (by intro _ _ _ h; exact h) hS (Or.inl ⟨by rfl, ?_⟩) ?_
                    rotate_left 1
                    · intro w' hS'
                      go_simp
                      all_goals with_reducible rfl
                    simp only [Act.put, List.setIfInBounds_toArray, List.set_cons_zero, List.set_cons_succ]
                    have b0 : Below wr.heap.size wr wr.drew := (Below.refl _ _).drew
                    refine wpAnyT_all (rs := [0, 6]) (by kernel_rfl) (by simp) ?_
                    intro ix hix
                    simp only [List.mem_cons, List.not_mem_nil, or_false] at hix
                    rcases hix with rfl | rfl
                    · refine wpT_op (o := _) (by rfl) (fun K hK => ?_)
                      go_simp
                      have b1 := b0.alloc b0.size (.cells #[] 9)
                      have m2 : Mid (wr.drew.alloc (.cells #[] 9)) wr.heap.size 9 1 (.slice (some ⟨wr.heap.size, 0, none⟩) 0 0) 0 [] := by
                        have h := Mid.empty (w := wr.drew) (base := wr.heap.size) (t := 9) b0.size
                        have e : wr.drew.heap.size = wr.heap.size := by simp
                        rw [e] at h; exact h
                      refine hK _ _ (fun _ => trivial) ?_
                      clear hK K
                      try simp only [Act.put, List.setIfInBounds_toArray, List.set_cons_zero, List.set_cons_succ]
                      refine wpAnyT_all (rs := [4, 6]) (by kernel_rfl) (by simp) ?_
                      intro ix hix
                      simp only [List.mem_cons, List.not_mem_nil, or_false] at hix
                      rcases hix with rfl | rfl
                      · refine wpT_op (o := _) (by rfl) (fun K hK => ?_)
                        refine step_append_src (by rfl) _ _ _ (by rfl) wr.heap.size 9 i0 _ 1 16 Try.underlying22 hi0 hz0 hz1 hz2 rfl (by omega) (.slice (some ⟨wr.heap.size, 0, none⟩) 0 0) (0) ([]) (by rfl) m2 wr.heap.size _ _ _ (strs (O.take (cc))) (by rfl) (HA.out _ b1) (strs_one _) (by unfold maxLen; omega) (by omega) b1.size ?_
                        intro v3 wq4 hm5 hr6
                        have b7 := b1.grown hr6.grown b1.size (fun g hg => (m2.lt g hg).1)
                        refine hK _ _ (fun _ => trivial) ?_
                        clear hK K
                        try simp only [Act.put, List.setIfInBounds_toArray, List.set_cons_zero, List.set_cons_succ]
                        refine wpAnyT_all (rs := [6]) (by kernel_rfl) (by simp) ?_
                        intro ix hix
                        simp only [List.mem_cons, List.not_mem_nil, or_false] at hix
                        subst hix
                        refine wpT_op (o := _) (by rfl) (fun K hK => ?_)
                        go_simp
                        have b8 := b7.alloc b7.size (.cells #[.string (bt x)] 9)
                        have hl9 : (wq4.alloc (.cells #[.string (bt x)] 9)).cell? ⟨wq4.heap.size, 0, none⟩ = some (.string (bt x)) := World.cell?_alloc_at _ _ _ _ (by simp)
                        have m10 := Mid.alloc_ hm5 (.cells #[.string (bt x)] 9)
                        refine hK _ _ (fun _ => trivial) ?_
                        clear hK K
                        try simp only [Act.put, List.setIfInBounds_toArray, List.set_cons_zero, List.set_cons_succ]
                        refine wpAnyT_all (rs := [7]) (by kernel_rfl) (by simp) ?_
                        intro ix hix
                        simp only [List.mem_cons, List.not_mem_nil, or_false] at hix
                        subst hix
                        refine wpT_op (o := _) (by rfl) (fun K hK => ?_)
                        refine step_append_mid (by rfl) _ _ _ (by rfl) wr.heap.size 9 i0 _ 1 16 Try.underlying22 hi0 hz0 hz1 hz2 rfl (by omega) v3 (0 + cc) ([] ++ strs (O.take (cc))) (by rfl) m10 ⟨wq4.heap.size, 0, none⟩ 1 1 [.string (bt x)] (by rfl) (by rfl) (news_one hl9) (by simp [Value.oneCell']) (by unfold maxLen; omega) (by omega) b8.size ?_
                        intro v11 wq12 hm13 hr14
                        have b15 := b8.grown hr14.grown b8.size (fun g hg => (m10.lt g hg).1)
                        refine hK _ _ (fun _ => trivial) ?_
                        clear hK K
                        try simp only [Act.put, List.setIfInBounds_toArray, List.set_cons_zero, List.set_cons_succ]
                        refine wpAnyT_all (rs := [11]) (by kernel_rfl) (by simp) ?_
                        intro ix hix
                        simp only [List.mem_cons, List.not_mem_nil, or_false] at hix
                        subst hix
                        refine wpT_op (o := _) (by rfl) (fun K hK => ?_)
                        refine step_append_src (by rfl) _ _ _ (by rfl) wr.heap.size 9 i0 _ 1 16 Try.underlying22 hi0 hz0 hz1 hz2 rfl (by omega) v11 (0 + cc + 1) ([] ++ strs (O.take (cc)) ++ [.string (bt x)]) (by rfl) hm13 wr.heap.size _ _ _ (strs (O.drop (cc))) (by rfl) (HBk.out _ b15) (strs_one _) (by unfold maxLen; omega) (by omega) b15.size ?_
                        intro v16 wq17 hm18 hr19
                        have b20 := b15.grown hr19.grown b15.size (fun g hg => (hm13.lt g hg).1)
                        refine hK _ _ (fun _ => trivial) ?_
                        clear hK K
                        try simp only [Act.put, List.setIfInBounds_toArray, List.set_cons_zero, List.set_cons_succ]
                        refine wpAnyT_all (rs := [12]) (by kernel_rfl) (by simp) ?_
                        intro ix hix
                        simp only [List.mem_cons, List.not_mem_nil, or_false] at hix
                        subst hix
                        refine wpT_op (o := _) (by rfl) (fun K hK => ?_)
                        try go_simp
                        refine hK _ _ (fun h => absurd h (by omega)) ?_
                        clear hK K
                        refine wpAnyT_done (by kernel_rfl) ?_ _
                        have HMz := Lib.hid hm18
                        have HBz := Lib.hid b20
                        clear hm18 b20
                        obtain ⟨Az, nz2, cz, ez, hnz, hsl⟩ := ins_sl HL.out (by omega) (by rw [Nat.sub_self]; exact HMz.out) HE.out
                        have hle2 : nz2 ≤ n9 + 1 := by rw [hnz, HN9.out, HL.out]; exact insL_len _ _
                        have HZ := Lib.hid (⟨hnz, hsl⟩ : nz2 = (insL O x).length ∧ Sl wq17 Az nz2 cz (insL O x))
                        clear hnz hsl HMz
                        subst ez
                        go_wp2
                        go_roundw
                        case rel => exact ⟨k + 1, _, dn ++ [x], Az, nz2, cz, congrArg Value.string HS2.out, rfl, by go_num, by omega, Lib.hid ⟨by rw [HF.out]; exact HZ.out.1, by omega, by rw [HF.out]; exact HZ.out.2, after HBB.out HBz.out, HW.out⟩⟩
                        case measure => simp only [intOf]; omega
                      · refine wpT_op (o := _) (by rfl) (fun K hK => ?_)
                        go_simp
                        have b21 := b1.alloc b1.size (.cells #[.string (bt x)] 9)
                        have hl22 : ((wr.drew.alloc (.cells #[] 9)).alloc (.cells #[.string (bt x)] 9)).cell? ⟨wr.heap.size + 1, 0, none⟩ = some (.string (bt x)) := World.cell?_alloc_at _ _ _ _ (by simp)
                        have m23 := Mid.alloc_ m2 (.cells #[.string (bt x)] 9)
                        refine hK _ _ (fun _ => trivial) ?_
                        clear hK K
                        try simp only [Act.put, List.setIfInBounds_toArray, List.set_cons_zero, List.set_cons_succ]
                        refine wpAnyT_all (rs := [4]) (by kernel_rfl) (by simp) ?_
                        intro ix hix
                        simp only [List.mem_cons, List.not_mem_nil, or_false] at hix
                        subst hix
                        refine wpT_op (o := _) (by rfl) (fun K hK => ?_)
                        refine step_append_src (by rfl) _ _ _ (by rfl) wr.heap.size 9 i0 _ 1 16 Try.underlying22 hi0 hz0 hz1 hz2 rfl (by omega) (.slice (some ⟨wr.heap.size, 0, none⟩) 0 0) (0) ([]) (by rfl) m23 wr.heap.size _ _ _ (strs (O.take (cc))) (by rfl) (HA.out _ b21) (strs_one _) (by unfold maxLen; omega) (by omega) b21.size ?_
                        intro v24 wq25 hm26 hr27
                        have b28 := b21.grown hr27.grown b21.size (fun g hg => (m23.lt g hg).1)
                        have hl29 := ran_cell hr27 m23 hl22 (by simp [Value.ownBlock])
                        refine hK _ _ (fun _ => trivial) ?_
                        clear hK K
                        try simp only [Act.put, List.setIfInBounds_toArray, List.set_cons_zero, List.set_cons_succ]
                        refine wpAnyT_all (rs := [7]) (by kernel_rfl) (by simp) ?_
                        intro ix hix
                        simp only [List.mem_cons, List.not_mem_nil, or_false] at hix
                        subst hix
                        refine wpT_op (o := _) (by rfl) (fun K hK => ?_)
                        refine step_append_mid (by rfl) _ _ _ (by rfl) wr.heap.size 9 i0 _ 1 16 Try.underlying22 hi0 hz0 hz1 hz2 rfl (by omega) v24 (0 + cc) ([] ++ strs (O.take (cc))) (by rfl) hm26 ⟨wr.heap.size + 1, 0, none⟩ 1 1 [.string (bt x)] (by rfl) (by rfl) (news_one hl29) (by simp [Value.oneCell']) (by unfold maxLen; omega) (by omega) b28.size ?_
                        intro v30 wq31 hm32 hr33
                        have b34 := b28.grown hr33.grown b28.size (fun g hg => (hm26.lt g hg).1)
                        refine hK _ _ (fun _ => trivial) ?_
                        clear hK K
                        try simp only [Act.put, List.setIfInBounds_toArray, List.set_cons_zero, List.set_cons_succ]
                        refine wpAnyT_all (rs := [11]) (by kernel_rfl) (by simp) ?_
                        intro ix hix
                        simp only [List.mem_cons, List.not_mem_nil, or_false] at hix
                        subst hix
                        refine wpT_op (o := _) (by rfl) (fun K hK => ?_)
                        refine step_append_src (by rfl) _ _ _ (by rfl) wr.heap.size 9 i0 _ 1 16 Try.underlying22 hi0 hz0 hz1 hz2 rfl (by omega) v30 (0 + cc + 1) ([] ++ strs (O.take (cc)) ++ [.string (bt x)]) (by rfl) hm32 wr.heap.size _ _ _ (strs (O.drop (cc))) (by rfl) (HBk.out _ b34) (strs_one _) (by unfold maxLen; omega) (by omega) b34.size ?_
                        intro v35 wq36 hm37 hr38
                        have b39 := b34.grown hr38.grown b34.size (fun g hg => (hm32.lt g hg).1)
                        refine hK _ _ (fun _ => trivial) ?_
                        clear hK K
                        try simp only [Act.put, List.setIfInBounds_toArray, List.set_cons_zero, List.set_cons_succ]
                        refine wpAnyT_all (rs := [12]) (by kernel_rfl) (by simp) ?_
                        intro ix hix
                        simp only [List.mem_cons, List.not_mem_nil, or_false] at hix
                        subst hix
                        refine wpT_op (o := _) (by rfl) (fun K hK => ?_)
                        try go_simp
                        refine hK _ _ (fun h => absurd h (by omega)) ?_
                        clear hK K
                        refine wpAnyT_done (by kernel_rfl) ?_ _
                        have HMz := Lib.hid hm37
                        have HBz := Lib.hid b39
                        clear hm37 b39
                        obtain ⟨Az, nz2, cz, ez, hnz, hsl⟩ := ins_sl HL.out (by omega) (by rw [Nat.sub_self]; exact HMz.out) HE.out
                        have hle2 : nz2 ≤ n9 + 1 := by rw [hnz, HN9.out, HL.out]; exact insL_len _ _
                        have HZ := Lib.hid (⟨hnz, hsl⟩ : nz2 = (insL O x).length ∧ Sl wq36 Az nz2 cz (insL O x))
                        clear hnz hsl HMz
                        subst ez
                        go_wp2
                        go_roundw
                        case rel => exact ⟨k + 1, _, dn ++ [x], Az, nz2, cz, congrArg Value.string HS2.out, rfl, by go_num, by omega, Lib.hid ⟨by rw [HF.out]; exact HZ.out.1, by omega, by rw [HF.out]; exact HZ.out.2, after HBB.out HBz.out, HW.out⟩⟩
                        case measure => simp only [intOf]; omega
                    · refine wpT_op (o := _) (by rfl) (fun K hK => ?_)
                      go_simp
                      have b40 := b0.alloc b0.size (.cells #[.string (bt x)] 9)
                      have hl41 : (wr.drew.alloc (.cells #[.string (bt x)] 9)).cell? ⟨wr.heap.size, 0, none⟩ = some (.string (bt x)) := World.cell?_alloc_at _ _ _ _ (by simp)
                      refine hK _ _ (fun _ => trivial) ?_
                      clear hK K
                      try simp only [Act.put, List.setIfInBounds_toArray, List.set_cons_zero, List.set_cons_succ]
                      refine wpAnyT_all (rs := [0]) (by kernel_rfl) (by simp) ?_
                      intro ix hix
                      simp only [List.mem_cons, List.not_mem_nil, or_false] at hix
                      subst hix
                      refine wpT_op (o := _) (by rfl) (fun K hK => ?_)
                      go_simp
                      have b42 := b40.alloc b40.size (.cells #[] 9)
                      have m43 : Mid ((wr.drew.alloc (.cells #[.string (bt x)] 9)).alloc (.cells #[] 9)) wr.heap.size 9 1 (.slice (some ⟨wr.heap.size + 1, 0, none⟩) 0 0) 0 [] := by
                        have h := Mid.empty (w := (wr.drew.alloc (.cells #[.string (bt x)] 9))) (base := wr.heap.size) (t := 9) b40.size
                        have e : (wr.drew.alloc (.cells #[.string (bt x)] 9)).heap.size = wr.heap.size + 1 := by simp
                        rw [e] at h; exact h
                      have hl44 : ((wr.drew.alloc (.cells #[.string (bt x)] 9)).alloc (.cells #[] 9)).cell? ⟨wr.heap.size, 0, none⟩ = some (.string (bt x)) := (World.cell?_alloc_lt _ _ _ (by simp)).trans hl41
                      refine hK _ _ (fun _ => trivial) ?_
                      clear hK K
                      try simp only [Act.put, List.setIfInBounds_toArray, List.set_cons_zero, List.set_cons_succ]
                      refine wpAnyT_all (rs := [4]) (by kernel_rfl) (by simp) ?_
                      intro ix hix
                      simp only [List.mem_cons, List.not_mem_nil, or_false] at hix
                      subst hix
                      refine wpT_op (o := _) (by rfl) (fun K hK => ?_)
                      refine step_append_src (by rfl) _ _ _ (by rfl) wr.heap.size 9 i0 _ 1 16 Try.underlying22 hi0 hz0 hz1 hz2 rfl (by omega) (.slice (some ⟨wr.heap.size + 1, 0, none⟩) 0 0) (0) ([]) (by rfl) m43 wr.heap.size _ _ _ (strs (O.take (cc))) (by rfl) (HA.out _ b42) (strs_one _) (by unfold maxLen; omega) (by omega) b42.size ?_
                      intro v45 wq46 hm47 hr48
                      have b49 := b42.grown hr48.grown b42.size (fun g hg => (m43.lt g hg).1)
                      have hl50 := ran_cell hr48 m43 hl44 (by simp [Value.ownBlock])
                      refine hK _ _ (fun _ => trivial) ?_
                      clear hK K
                      try simp only [Act.put, List.setIfInBounds_toArray, List.set_cons_zero, List.set_cons_succ]
                      refine wpAnyT_all (rs := [7]) (by kernel_rfl) (by simp) ?_
                      intro ix hix
                      simp only [List.mem_cons, List.not_mem_nil, or_false] at hix
                      subst hix
                      refine wpT_op (o := _) (by rfl) (fun K hK => ?_)
                      refine step_append_mid (by rfl) _ _ _ (by rfl) wr.heap.size 9 i0 _ 1 16 Try.underlying22 hi0 hz0 hz1 hz2 rfl (by omega) v45 (0 + cc) ([] ++ strs (O.take (cc))) (by rfl) hm47 ⟨wr.heap.size, 0, none⟩ 1 1 [.string (bt x)] (by rfl) (by rfl) (news_one hl50) (by simp [Value.oneCell']) (by unfold maxLen; omega) (by omega) b49.size ?_
                      intro v51 wq52 hm53 hr54
                      have b55 := b49.grown hr54.grown b49.size (fun g hg => (hm47.lt g hg).1)
                      refine hK _ _ (fun _ => trivial) ?_
                      clear hK K
                      try simp only [Act.put, List.setIfInBounds_toArray, List.set_cons_zero, List.set_cons_succ]
                      refine wpAnyT_all (rs := [11]) (by kernel_rfl) (by simp) ?_
                      intro ix hix
                      simp only [List.mem_cons, List.not_mem_nil, or_false] at hix
                      subst hix
                      refine wpT_op (o := _) (by rfl) (fun K hK => ?_)
                      refine step_append_src (by rfl) _ _ _ (by rfl) wr.heap.size 9 i0 _ 1 16 Try.underlying22 hi0 hz0 hz1 hz2 rfl (by omega) v51 (0 + cc + 1) ([] ++ strs (O.take (cc)) ++ [.string (bt x)]) (by rfl) hm53 wr.heap.size _ _ _ (strs (O.drop (cc))) (by rfl) (HBk.out _ b55) (strs_one _) (by unfold maxLen; omega) (by omega) b55.size ?_
                      intro v56 wq57 hm58 hr59
                      have b60 := b55.grown hr59.grown b55.size (fun g hg => (hm53.lt g hg).1)
                      refine hK _ _ (fun _ => trivial) ?_
                      clear hK K
                      try simp only [Act.put, List.setIfInBounds_toArray, List.set_cons_zero, List.set_cons_succ]
                      refine wpAnyT_all (rs := [12]) (by kernel_rfl) (by simp) ?_
                      intro ix hix
                      simp only [List.mem_cons, List.not_mem_nil, or_false] at hix
                      subst hix
                      refine wpT_op (o := _) (by rfl) (fun K hK => ?_)
                      try go_simp
                      refine hK _ _ (fun h => absurd h (by omega)) ?_
                      clear hK K
                      refine wpAnyT_done (by kernel_rfl) ?_ _
                      have HMz := Lib.hid hm58
                      have HBz := Lib.hid b60
                      clear hm58 b60
                      obtain ⟨Az, nz2, cz, ez, hnz, hsl⟩ := ins_sl HL.out (by omega) (by rw [Nat.sub_self]; exact HMz.out) HE.out
                      have hle2 : nz2 ≤ n9 + 1 := by rw [hnz, HN9.out, HL.out]; exact insL_len _ _
                      have HZ := Lib.hid (⟨hnz, hsl⟩ : nz2 = (insL O x).length ∧ Sl wq57 Az nz2 cz (insL O x))
                      clear hnz hsl HMz
                      subst ez
                      go_wp2
                      go_roundw
                      case rel => exact ⟨k + 1, _, dn ++ [x], Az, nz2, cz, congrArg Value.string HS2.out, rfl, by go_num, by omega, Lib.hid ⟨by rw [HF.out]; exact HZ.out.1, by omega, by rw [HF.out]; exact HZ.out.2, after HBB.out HBz.out, HW.out⟩⟩
                      case measure => simp only [intOf]; omega
                  | some ad =>
                    go_wp2
                    have HA : Hid (∀ w', Below wr.heap.size wr w' → Reads w' wr.heap.size 1 (some ad) (cc) (strs (O.take (cc)))) := Lib.hid (fun w' hb => ((HR.out.below hb).take_s (k := cc) (by omega)))
                    have HBk : Hid (∀ w', Below wr.heap.size wr w' → Reads w' wr.heap.size 1 (some ad) 0 (strs (O.drop (cc)))) := Lib.hid (fun w' hb => by have := (HR.out.below hb).drop_s (k := cc) (c := cc) (by omega) (by omega); rw [if_pos rfl, Nat.sub_self] at this; exact this)
                    refine wp_region_T (fun _ => True) 12 (by kernel_rfl) ?_
                    have hS : True := trivial
                    refine wpAnyT_take (i := 1) (oi := _) (v := ?_) (by rfl) (by kernel_rfl) (by intro _ _ _ h; exact h) hS (Or.inl ⟨by rfl, ?_⟩) ?_
                    rotate_left 1
                    · intro w' hS'
                      go_simp
                      all_goals with_reducible rfl
                    simp only [Act.put, List.setIfInBounds_toArray, List.set_cons_zero, List.set_cons_succ]
                    refine wpAnyT_take (i := 2) (oi := _) (v := ?_) (by rfl) (by kernel_rfl) (by intro _ _ _ h; exact h) hS (Or.inl ⟨by rfl, ?_⟩) ?_
                    rotate_left 1
                    · intro w' hS'
                      go_simp
                      all_goals with_reducible rfl
                    simp only [Act.put, List.setIfInBounds_toArray, List.set_cons_zero, List.set_cons_succ]
                    refine wpAnyT_take (i := 3) (oi := _) (v := ?_) (by rfl) (by kernel_rfl) (by intro _ _ _ h; exact h) hS (Or.inl ⟨by rfl, ?_⟩) ?_
                    rotate_left 1
                    · intro w' hS'
                      go_simp
                      all_goals with_reducible rfl
                    simp only [Act.put, List.setIfInBounds_toArray, List.set_cons_zero, List.set_cons_succ]
                    refine wpAnyT_take (i := 5) (oi := _) (v := ?_) (by rfl) (by kernel_rfl) (by intro _ _ _ h; exact h) hS (Or.inl ⟨by rfl, ?_⟩) ?_
                    rotate_left 1
                    · intro w' hS'
                      go_simp
                      all_goals with_reducible rfl
                    simp only [Act.put, List.setIfInBounds_toArray, List.set_cons_zero, List.set_cons_succ]
                    refine wpAnyT_take (i := 8) (oi := _) (v := ?_) (by rfl) (by kernel_rfl) (by intro _ _ _ h; exact h) hS (Or.inl ⟨by rfl, ?_⟩) ?_
                    rotate_left 1
                    · intro w' hS'
                      go_simp
                      all_goals with_reducible rfl
                    simp only [Act.put, List.setIfInBounds_toArray, List.set_cons_zero, List.set_cons_succ]
                    refine wpAnyT_take (i := 9) (oi := _) (v := ?_) (by rfl) (by kernel_rfl) (by intro _ _ _ h; exact h) hS (Or.inl ⟨by rfl, ?_⟩) ?_
                    rotate_left 1
                    · intro w' hS'
                      go_simp
                      all_goals with_reducible rfl
                    simp only [Act.put, List.setIfInBounds_toArray, List.set_cons_zero, List.set_cons_succ]
                    refine wpAnyT_take (i := 10) (oi := _) (v := ?_) (by rfl) (by kernel_rfl) (by intro _ _ _ h; exact h) hS (Or.inl ⟨by rfl, ?_⟩) ?_
                    rotate_left 1
                    · intro w' hS'
                      go_simp
                      all_goals with_reducible rfl
                    simp only [Act.put, List.setIfInBounds_toArray, List.set_cons_zero, List.set_cons_succ]
                    have b0 : Below wr.heap.size wr wr.drew := (Below.refl _ _).drew
                    refine wpAnyT_all (rs := [0, 6]) (by kernel_rfl) (by simp) ?_
                    intro ix hix
                    simp only [List.mem_cons, List.not_mem_nil, or_false] at hix
                    rcases hix with rfl | rfl
                    · refine wpT_op (o := _) (by rfl) (fun K hK => ?_)
                      go_simp
                      have b1 := b0.alloc b0.size (.cells #[] 9)
                      have m2 : Mid (wr.drew.alloc (.cells #[] 9)) wr.heap.size 9 1 (.slice (some ⟨wr.heap.size, 0, none⟩) 0 0) 0 [] := by
                        have h := Mid.empty (w := wr.drew) (base := wr.heap.size) (t := 9) b0.size
                        have e : wr.drew.heap.size = wr.heap.size := by simp
                        rw [e] at h; exact h
                      refine hK _ _ (fun _ => trivial) ?_
                      clear hK K
                      try simp only [Act.put, List.setIfInBounds_toArray, List.set_cons_zero, List.set_cons_succ]
                      refine wpAnyT_all (rs := [4, 6]) (by kernel_rfl) (by simp) ?_
                      intro ix hix
                      simp only [List.mem_cons, List.not_mem_nil, or_false] at hix
                      rcases hix with rfl | rfl
                      · refine wpT_op (o := _) (by rfl) (fun K hK => ?_)
                        refine step_append_src (by rfl) _ _ _ (by rfl) wr.heap.size 9 i0 _ 1 16 Try.underlying22 hi0 hz0 hz1 hz2 rfl (by omega) (.slice (some ⟨wr.heap.size, 0, none⟩) 0 0) (0) ([]) (by rfl) m2 wr.heap.size _ _ _ (strs (O.take (cc))) (by rfl) (HA.out _ b1) (strs_one _) (by unfold maxLen; omega) (by omega) b1.size ?_
                        intro v3 wq4 hm5 hr6
                        have b7 := b1.grown hr6.grown b1.size (fun g hg => (m2.lt g hg).1)
                        refine hK _ _ (fun _ => trivial) ?_
                        clear hK K
                        try simp only [Act.put, List.setIfInBounds_toArray, List.set_cons_zero, List.set_cons_succ]
                        refine wpAnyT_all (rs := [6]) (by kernel_rfl) (by simp) ?_
                        intro ix hix
                        simp only [List.mem_cons, List.not_mem_nil, or_false] at hix
                        subst hix
                        refine wpT_op (o := _) (by rfl) (fun K hK => ?_)
                        go_simp
                        have b8 := b7.alloc b7.size (.cells #[.string (bt x)] 9)
                        have hl9 : (wq4.alloc (.cells #[.string (bt x)] 9)).cell? ⟨wq4.heap.size, 0, none⟩ = some (.string (bt x)) := World.cell?_alloc_at _ _ _ _ (by simp)
                        have m10 := Mid.alloc_ hm5 (.cells #[.string (bt x)] 9)
                        refine hK _ _ (fun _ => trivial) ?_
                        clear hK K
                        try simp only [Act.put, List.setIfInBounds_toArray, List.set_cons_zero, List.set_cons_succ]
                        refine wpAnyT_all (rs := [7]) (by kernel_rfl) (by simp) ?_
                        intro ix hix
                        simp only [List.mem_cons, List.not_mem_nil, or_false] at hix
                        subst hix
                        refine wpT_op (o := _) (by rfl) (fun K hK => ?_)
                        refine step_append_mid (by rfl) _ _ _ (by rfl) wr.heap.size 9 i0 _ 1 16 Try.underlying22 hi0 hz0 hz1 hz2 rfl (by omega) v3 (0 + cc) ([] ++ strs (O.take (cc))) (by rfl) m10 ⟨wq4.heap.size, 0, none⟩ 1 1 [.string (bt x)] (by rfl) (by rfl) (news_one hl9) (by simp [Value.oneCell']) (by unfold maxLen; omega) (by omega) b8.size ?_
                        intro v11 wq12 hm13 hr14
                        have b15 := b8.grown hr14.grown b8.size (fun g hg => (m10.lt g hg).1)
                        refine hK _ _ (fun _ => trivial) ?_
                        clear hK K
                        try simp only [Act.put, List.setIfInBounds_toArray, List.set_cons_zero, List.set_cons_succ]
                        refine wpAnyT_all (rs := [11]) (by kernel_rfl) (by simp) ?_
                        intro ix hix
                        simp only [List.mem_cons, List.not_mem_nil, or_false] at hix
                        subst hix
                        refine wpT_op (o := _) (by rfl) (fun K hK => ?_)
                        refine step_append_src (by rfl) _ _ _ (by rfl) wr.heap.size 9 i0 _ 1 16 Try.underlying22 hi0 hz0 hz1 hz2 rfl (by omega) v11 (0 + cc + 1) ([] ++ strs (O.take (cc)) ++ [.string (bt x)]) (by rfl) hm13 wr.heap.size _ _ _ (strs (O.drop (cc))) (by rfl) (HBk.out _ b15) (strs_one _) (by unfold maxLen; omega) (by omega) b15.size ?_
                        intro v16 wq17 hm18 hr19
                        have b20 := b15.grown hr19.grown b15.size (fun g hg => (hm13.lt g hg).1)
                        refine hK _ _ (fun _ => trivial) ?_
                        clear hK K
                        try simp only [Act.put, List.setIfInBounds_toArray, List.set_cons_zero, List.set_cons_succ]
                        refine wpAnyT_all (rs := [12]) (by kernel_rfl) (by simp) ?_
                        intro ix hix
                        simp only [List.mem_cons, List.not_mem_nil, or_false] at hix
                        subst hix
                        refine wpT_op (o := _) (by rfl) (fun K hK => ?_)
                        try go_simp
                        refine hK _ _ (fun h => absurd h (by omega)) ?_
                        clear hK K
                        refine wpAnyT_done (by kernel_rfl) ?_ _
                        have HMz := Lib.hid hm18
                        have HBz := Lib.hid b20
                        clear hm18 b20
                        obtain ⟨Az, nz2, cz, ez, hnz, hsl⟩ := ins_sl HL.out (by omega) (by rw [Nat.sub_self]; exact HMz.out) HE.out
                        have hle2 : nz2 ≤ n9 + 1 := by rw [hnz, HN9.out, HL.out]; exact insL_len _ _
                        have HZ := Lib.hid (⟨hnz, hsl⟩ : nz2 = (insL O x).length ∧ Sl wq17 Az nz2 cz (insL O x))
                        clear hnz hsl HMz
                        subst ez
                        go_wp2
                        go_roundw
                        case rel => exact ⟨k + 1, _, dn ++ [x], Az, nz2, cz, congrArg Value.string HS2.out, rfl, by go_num, by omega, Lib.hid ⟨by rw [HF.out]; exact HZ.out.1, by omega, by rw [HF.out]; exact HZ.out.2, after HBB.out HBz.out, HW.out⟩⟩
                        case measure => simp only [intOf]; omega
                      · refine wpT_op (o := _) (by rfl) (fun K hK => ?_)
                        go_simp
                        have b21 := b1.alloc b1.size (.cells #[.string (bt x)] 9)
                        have hl22 : ((wr.drew.alloc (.cells #[] 9)).alloc (.cells #[.string (bt x)] 9)).cell? ⟨wr.heap.size + 1, 0, none⟩ = some (.string (bt x)) := World.cell?_alloc_at _ _ _ _ (by simp)
                        have m23 := Mid.alloc_ m2 (.cells #[.string (bt x)] 9)
                        refine hK _ _ (fun _ => trivial) ?_
                        clear hK K
                        try simp only [Act.put, List.setIfInBounds_toArray, List.set_cons_zero, List.set_cons_succ]
                        refine wpAnyT_all (rs := [4]) (by kernel_rfl) (by simp) ?_
                        intro ix hix
                        simp only [List.mem_cons, List.not_mem_nil, or_false] at hix
                        subst hix
                        refine wpT_op (o := _) (by rfl) (fun K hK => ?_)
                        refine step_append_src (by rfl) _ _ _ (by rfl) wr.heap.size 9 i0 _ 1 16 Try.underlying22 hi0 hz0 hz1 hz2 rfl (by omega) (.slice (some ⟨wr.heap.size, 0, none⟩) 0 0) (0) ([]) (by rfl) m23 wr.heap.size _ _ _ (strs (O.take (cc))) (by rfl) (HA.out _ b21) (strs_one _) (by unfold maxLen; omega) (by omega) b21.size ?_
                        intro v24 wq25 hm26 hr27
                        have b28 := b21.grown hr27.grown b21.size (fun g hg => (m23.lt g hg).1)
                        have hl29 := ran_cell hr27 m23 hl22 (by simp [Value.ownBlock])
                        refine hK _ _ (fun _ => trivial) ?_
                        clear hK K
                        try simp only [Act.put, List.setIfInBounds_toArray, List.set_cons_zero, List.set_cons_succ]
                        refine wpAnyT_all (rs := [7]) (by kernel_rfl) (by simp) ?_
                        intro ix hix
                        simp only [List.mem_cons, List.not_mem_nil, or_false] at hix
                        subst hix
                        refine wpT_op (o := _) (by rfl) (fun K hK => ?_)
                        refine step_append_mid (by rfl) _ _ _ (by rfl) wr.heap.size 9 i0 _ 1 16 Try.underlying22 hi0 hz0 hz1 hz2 rfl (by omega) v24 (0 + cc) ([] ++ strs (O.take (cc))) (by rfl) hm26 ⟨wr.heap.size + 1, 0, none⟩ 1 1 [.string (bt x)] (by rfl) (by rfl) (news_one hl29) (by simp [Value.oneCell']) (by unfold maxLen; omega) (by omega) b28.size ?_
                        intro v30 wq31 hm32 hr33
                        have b34 := b28.grown hr33.grown b28.size (fun g hg => (hm26.lt g hg).1)
                        refine hK _ _ (fun _ => trivial) ?_
                        clear hK K
                        try simp only [Act.put, List.setIfInBounds_toArray, List.set_cons_zero, List.set_cons_succ]
                        refine wpAnyT_all (rs := [11]) (by kernel_rfl) (by simp) ?_
                        intro ix hix
                        simp only [List.mem_cons, List.not_mem_nil, or_false] at hix
                        subst hix
                        refine wpT_op (o := _) (by rfl) (fun K hK => ?_)
                        refine step_append_src (by rfl) _ _ _ (by rfl) wr.heap.size 9 i0 _ 1 16 Try.underlying22 hi0 hz0 hz1 hz2 rfl (by omega) v30 (0 + cc + 1) ([] ++ strs (O.take (cc)) ++ [.string (bt x)]) (by rfl) hm32 wr.heap.size _ _ _ (strs (O.drop (cc))) (by rfl) (HBk.out _ b34) (strs_one _) (by unfold maxLen; omega) (by omega) b34.size ?_
                        intro v35 wq36 hm37 hr38
                        have b39 := b34.grown hr38.grown b34.size (fun g hg => (hm32.lt g hg).1)
                        refine hK _ _ (fun _ => trivial) ?_
                        clear hK K
                        try simp only [Act.put, List.setIfInBounds_toArray, List.set_cons_zero, List.set_cons_succ]
                        refine wpAnyT_all (rs := [12]) (by kernel_rfl) (by simp) ?_
                        intro ix hix
                        simp only [List.mem_cons, List.not_mem_nil, or_false] at hix
                        subst hix
                        refine wpT_op (o := _) (by rfl) (fun K hK => ?_)
                        try go_simp
                        refine hK _ _ (fun h => absurd h (by omega)) ?_
                        clear hK K
                        refine wpAnyT_done (by kernel_rfl) ?_ _
                        have HMz := Lib.hid hm37
                        have HBz := Lib.hid b39
                        clear hm37 b39
                        obtain ⟨Az, nz2, cz, ez, hnz, hsl⟩ := ins_sl HL.out (by omega) (by rw [Nat.sub_self]; exact HMz.out) HE.out
                        have hle2 : nz2 ≤ n9 + 1 := by rw [hnz, HN9.out, HL.out]; exact insL_len _ _
                        have HZ := Lib.hid (⟨hnz, hsl⟩ : nz2 = (insL O x).length ∧ Sl wq36 Az nz2 cz (insL O x))
                        clear hnz hsl HMz
                        subst ez
                        go_wp2
                        go_roundw
                        case rel => exact ⟨k + 1, _, dn ++ [x], Az, nz2, cz, congrArg Value.string HS2.out, rfl, by go_num, by omega, Lib.hid ⟨by rw [HF.out]; exact HZ.out.1, by omega, by rw [HF.out]; exact HZ.out.2, after HBB.out HBz.out, HW.out⟩⟩
                        case measure => simp only [intOf]; omega
                    · refine wpT_op (o := _) (by rfl) (fun K hK => ?_)
                      go_simp
                      have b40 := b0.alloc b0.size (.cells #[.string (bt x)] 9)
                      have hl41 : (wr.drew.alloc (.cells #[.string (bt x)] 9)).cell? ⟨wr.heap.size, 0, none⟩ = some (.string (bt x)) := World.cell?_alloc_at _ _ _ _ (by simp)
                      refine hK _ _ (fun _ => trivial) ?_
                      clear hK K
                      try simp only [Act.put, List.setIfInBounds_toArray, List.set_cons_zero, List.set_cons_succ]
                      refine wpAnyT_all (rs := [0]) (by kernel_rfl) (by simp) ?_
                      intro ix hix
                      simp only [List.mem_cons, List.not_mem_nil, or_false] at hix
                      subst hix
                      refine wpT_op (o := _) (by rfl) (fun K hK => ?_)
                      go_simp
                      have b42 := b40.alloc b40.size (.cells #[] 9)
                      have m43 : Mid ((wr.drew.alloc (.cells #[.string (bt x)] 9)).alloc (.cells #[] 9)) wr.heap.size 9 1 (.slice (some ⟨wr.heap.size + 1, 0, none⟩) 0 0) 0 [] := by
                        have h := Mid.empty (w := (wr.drew.alloc (.cells #[.string (bt x)] 9))) (base := wr.heap.size) (t := 9) b40.size
                        have e : (wr.drew.alloc (.cells #[.string (bt x)] 9)).heap.size = wr.heap.size + 1 := by simp
                        rw [e] at h; exact h
                      have hl44 : ((wr.drew.alloc (.cells #[.string (bt x)] 9)).alloc (.cells #[] 9)).cell? ⟨wr.heap.size, 0, none⟩ = some (.string (bt x)) := (World.cell?_alloc_lt _ _ _ (by simp)).trans hl41
                      refine hK _ _ (fun _ => trivial) ?_
                      clear hK K
                      try simp only [Act.put, List.setIfInBounds_toArray, List.set_cons_zero, List.set_cons_succ]
                      refine wpAnyT_all (rs := [4]) (by kernel_rfl) (by simp) ?_
                      intro ix hix
                      simp only [List.mem_cons, List.not_mem_nil, or_false] at hix
                      subst hix
                      refine wpT_op (o := _) (by rfl) (fun K hK => ?_)
                      refine step_append_src (by rfl) _ _ _ (by rfl) wr.heap.size 9 i0 _ 1 16 Try.underlying22 hi0 hz0 hz1 hz2 rfl (by omega) (.slice (some ⟨wr.heap.size + 1, 0, none⟩) 0 0) (0) ([]) (by rfl) m43 wr.heap.size _ _ _ (strs (O.take (cc))) (by rfl) (HA.out _ b42) (strs_one _) (by unfold maxLen; omega) (by omega) b42.size ?_
                      intro v45 wq46 hm47 hr48
                      have b49 := b42.grown hr48.grown b42.size (fun g hg => (m43.lt g hg).1)
                      have hl50 := ran_cell hr48 m43 hl44 (by simp [Value.ownBlock])
                      refine hK _ _ (fun _ => trivial) ?_
                      clear hK K
                      try simp only [Act.put, List.setIfInBounds_toArray, List.set_cons_zero, List.set_cons_succ]
                      refine wpAnyT_all (rs := [7]) (by kernel_rfl) (by simp) ?_
                      intro ix hix
                      simp only [List.mem_cons, List.not_mem_nil, or_false] at hix
                      subst hix
                      refine wpT_op (o := _) (by rfl) (fun K hK => ?_)
                      refine step_append_mid (by rfl) _ _ _ (by rfl) wr.heap.size 9 i0 _ 1 16 Try.underlying22 hi0 hz0 hz1 hz2 rfl (by omega) v45 (0 + cc) ([] ++ strs (O.take (cc))) (by rfl) hm47 ⟨wr.heap.size, 0, none⟩ 1 1 [.string (bt x)] (by rfl) (by rfl) (news_one hl50) (by simp [Value.oneCell']) (by unfold maxLen; omega) (by omega) b49.size ?_
                      intro v51 wq52 hm53 hr54
                      have b55 := b49.grown hr54.grown b49.size (fun g hg => (hm47.lt g hg).1)
                      refine hK _ _ (fun _ => trivial) ?_
                      clear hK K
                      try simp only [Act.put, List.setIfInBounds_toArray, List.set_cons_zero, List.set_cons_succ]
                      refine wpAnyT_all (rs := [11]) (by kernel_rfl) (by simp) ?_
                      intro ix hix
                      simp only [List.mem_cons, List.not_mem_nil, or_false] at hix
                      subst hix
                      refine wpT_op (o := _) (by rfl) (fun K hK => ?_)
                      refine step_append_src (by rfl) _ _ _ (by rfl) wr.heap.size 9 i0 _ 1 16 Try.underlying22 hi0 hz0 hz1 hz2 rfl (by omega) v51 (0 + cc + 1) ([] ++ strs (O.take (cc)) ++ [.string (bt x)]) (by rfl) hm53 wr.heap.size _ _ _ (strs (O.drop (cc))) (by rfl) (HBk.out _ b55) (strs_one _) (by unfold maxLen; omega) (by omega) b55.size ?_
                      intro v56 wq57 hm58 hr59
                      have b60 := b55.grown hr59.grown b55.size (fun g hg => (hm53.lt g hg).1)
                      refine hK _ _ (fun _ => trivial) ?_
                      clear hK K
                      try simp only [Act.put, List.setIfInBounds_toArray, List.set_cons_zero, List.set_cons_succ]
                      refine wpAnyT_all (rs := [12]) (by kernel_rfl) (by simp) ?_
                      intro ix hix
                      simp only [List.mem_cons, List.not_mem_nil, or_false] at hix
                      subst hix
                      refine wpT_op (o := _) (by rfl) (fun K hK => ?_)
                      try go_simp
                      refine hK _ _ (fun h => absurd h (by omega)) ?_
                      clear hK K
                      refine wpAnyT_done (by kernel_rfl) ?_ _
                      have HMz := Lib.hid hm58
                      have HBz := Lib.hid b60
                      clear hm58 b60
                      obtain ⟨Az, nz2, cz, ez, hnz, hsl⟩ := ins_sl HL.out (by omega) (by rw [Nat.sub_self]; exact HMz.out) HE.out
                      have hle2 : nz2 ≤ n9 + 1 := by rw [hnz, HN9.out, HL.out]; exact insL_len _ _
                      have HZ := Lib.hid (⟨hnz, hsl⟩ : nz2 = (insL O x).length ∧ Sl wq57 Az nz2 cz (insL O x))
                      clear hnz hsl HMz
                      subst ez
                      go_wp2
                      go_roundw
                      case rel => exact ⟨k + 1, _, dn ++ [x], Az, nz2, cz, congrArg Value.string HS2.out, rfl, by go_num, by omega, Lib.hid ⟨by rw [HF.out]; exact HZ.out.1, by omega, by rw [HF.out]; exact HZ.out.2, after HBB.out HBz.out, HW.out⟩⟩
                      case measure => simp only [intOf]; omega
                · cases A with
                  | none => exact absurd (HSL.out.2.2.1 rfl) (by omega)
                  | some ad =>
                    go_wp2
                    have HA : Hid (∀ w', Below wr.heap.size wr w' → Reads w' wr.heap.size 1 (some ad) (n) (strs (O.take (n)))) := Lib.hid (fun w' hb => ((HR.out.below hb).take_s (k := n) (by omega)))
                    have HBk : Hid (∀ w', Below wr.heap.size wr w' → Reads w' wr.heap.size 1 (some (ad.add n)) 0 (strs (O.drop (n)))) := Lib.hid (fun w' hb => by have := (HR.out.below hb).drop_s (k := n) (c := cc) (by omega) (by omega); rw [if_neg hcn, Nat.sub_self] at this; exact this)
                    refine wp_region_T (fun _ => True) 12 (by kernel_rfl) ?_
                    have hS : True := trivial
                    refine wpAnyT_take (i := 1) (oi := _) (v := ?_) (by rfl) (by kernel_rfl) (by intro _ _ _ h; exact h) hS (Or.inl ⟨by rfl, ?_⟩) ?_
                    rotate_left 1
                    · intro w' hS'
                      go_simp
                      all_goals with_reducible rfl
                    simp only [Act.put, List.setIfInBounds_toArray, List.set_cons_zero, List.set_cons_succ]
                    refine wpAnyT_take (i := 2) (oi := _) (v := ?_) (by rfl) (by kernel_rfl) (by intro _ _ _ h; exact h) hS (Or.inl ⟨by rfl, ?_⟩) ?_
                    rotate_left 1
                    · intro w' hS'
                      go_simp
                      all_goals with_reducible rfl
                    simp only [Act.put, List.setIfInBounds_toArray, List.set_cons_zero, List.set_cons_succ]
                    refine wpAnyT_take (i := 3) (oi := _) (v := ?_) (by rfl) (by kernel_rfl) (by intro _ _ _ h; exact h) hS (Or.inl ⟨by rfl, ?_⟩) ?_
                    rotate_left 1
                    · intro w' hS'
                      go_simp
                      all_goals with_reducible rfl
                    simp only [Act.put, List.setIfInBounds_toArray, List.set_cons_zero, List.set_cons_succ]
                    refine wpAnyT_take (i := 5) (oi := _) (v := ?_) (by rfl) (by kernel_rfl) (by intro _ _ _ h; exact h) hS (Or.inl ⟨by rfl, ?_⟩) ?_
                    rotate_left 1
                    · intro w' hS'
                      go_simp
                      all_goals with_reducible rfl
                    simp only [Act.put, List.setIfInBounds_toArray, List.set_cons_zero, List.set_cons_succ]
                    refine wpAnyT_take (i := 8) (oi := _) (v := ?_) (by rfl) (by kernel_rfl) (by intro _ _ _ h; exact h) hS (Or.inl ⟨by rfl, ?_⟩) ?_
                    rotate_left 1
                    · intro w' hS'
                      go_simp
                      all_goals with_reducible rfl
                    simp only [Act.put, List.setIfInBounds_toArray, List.set_cons_zero, List.set_cons_succ]
                    refine wpAnyT_take (i := 9) (oi := _) (v := ?_) (by rfl) (by kernel_rfl) (by intro _ _ _ h; exact h) hS (Or.inl ⟨by rfl, ?_⟩) ?_
                    rotate_left 1
                    · intro w' hS'
                      go_simp
                      all_goals with_reducible rfl
                    simp only [Act.put, List.setIfInBounds_toArray, List.set_cons_zero, List.set_cons_succ]
                    refine wpAnyT_take (i := 10) (oi := _) (v := ?_) (by rfl) (by kernel_rfl) (by intro _ _ _ h; exact h) hS (Or.inl ⟨by rfl, ?_⟩) ?_
                    rotate_left 1
                    · intro w' hS'
                      go_simp
                      all_goals with_reducible rfl
                    simp only [Act.put, List.setIfInBounds_toArray, List.set_cons_zero, List.set_cons_succ]
                    have b0 : Below wr.heap.size wr wr.drew := (Below.refl _ _).drew
                    refine wpAnyT_all (rs := [0, 6]) (by kernel_rfl) (by simp) ?_
                    intro ix hix
                    simp only [List.mem_cons, List.not_mem_nil, or_false] at hix
                    rcases hix with rfl | rfl
                    · refine wpT_op (o := _) (by rfl) (fun K hK => ?_)
                      go_simp
                      have b1 := b0.alloc b0.size (.cells #[] 9)
                      have m2 : Mid (wr.drew.alloc (.cells #[] 9)) wr.heap.size 9 1 (.slice (some ⟨wr.heap.size, 0, none⟩) 0 0) 0 [] := by
                        have h := Mid.empty (w := wr.drew) (base := wr.heap.size) (t := 9) b0.size
                        have e : wr.drew.heap.size = wr.heap.size := by simp
                        rw [e] at h; exact h
                      refine hK _ _ (fun _ => trivial) ?_
                      clear hK K
                      try simp only [Act.put, List.setIfInBounds_toArray, List.set_cons_zero, List.set_cons_succ]
                      refine wpAnyT_all (rs := [4, 6]) (by kernel_rfl) (by simp) ?_
                      intro ix hix
                      simp only [List.mem_cons, List.not_mem_nil, or_false] at hix
                      rcases hix with rfl | rfl
                      · refine wpT_op (o := _) (by rfl) (fun K hK => ?_)
                        refine step_append_src (by rfl) _ _ _ (by rfl) wr.heap.size 9 i0 _ 1 16 Try.underlying22 hi0 hz0 hz1 hz2 rfl (by omega) (.slice (some ⟨wr.heap.size, 0, none⟩) 0 0) (0) ([]) (by rfl) m2 wr.heap.size _ _ _ (strs (O.take (n))) (by rfl) (HA.out _ b1) (strs_one _) (by unfold maxLen; omega) (by omega) b1.size ?_
                        intro v3 wq4 hm5 hr6
                        have b7 := b1.grown hr6.grown b1.size (fun g hg => (m2.lt g hg).1)
                        refine hK _ _ (fun _ => trivial) ?_
                        clear hK K
                        try simp only [Act.put, List.setIfInBounds_toArray, List.set_cons_zero, List.set_cons_succ]
                        refine wpAnyT_all (rs := [6]) (by kernel_rfl) (by simp) ?_
                        intro ix hix
                        simp only [List.mem_cons, List.not_mem_nil, or_false] at hix
                        subst hix
                        refine wpT_op (o := _) (by rfl) (fun K hK => ?_)
                        go_simp
                        have b8 := b7.alloc b7.size (.cells #[.string (bt x)] 9)
                        have hl9 : (wq4.alloc (.cells #[.string (bt x)] 9)).cell? ⟨wq4.heap.size, 0, none⟩ = some (.string (bt x)) := World.cell?_alloc_at _ _ _ _ (by simp)
                        have m10 := Mid.alloc_ hm5 (.cells #[.string (bt x)] 9)
                        refine hK _ _ (fun _ => trivial) ?_
                        clear hK K
                        try simp only [Act.put, List.setIfInBounds_toArray, List.set_cons_zero, List.set_cons_succ]
                        refine wpAnyT_all (rs := [7]) (by kernel_rfl) (by simp) ?_
                        intro ix hix
                        simp only [List.mem_cons, List.not_mem_nil, or_false] at hix
                        subst hix
                        refine wpT_op (o := _) (by rfl) (fun K hK => ?_)
                        refine step_append_mid (by rfl) _ _ _ (by rfl) wr.heap.size 9 i0 _ 1 16 Try.underlying22 hi0 hz0 hz1 hz2 rfl (by omega) v3 (0 + n) ([] ++ strs (O.take (n))) (by rfl) m10 ⟨wq4.heap.size, 0, none⟩ 1 1 [.string (bt x)] (by rfl) (by rfl) (news_one hl9) (by simp [Value.oneCell']) (by unfold maxLen; omega) (by omega) b8.size ?_
                        intro v11 wq12 hm13 hr14
                        have b15 := b8.grown hr14.grown b8.size (fun g hg => (m10.lt g hg).1)
                        refine hK _ _ (fun _ => trivial) ?_
                        clear hK K
                        try simp only [Act.put, List.setIfInBounds_toArray, List.set_cons_zero, List.set_cons_succ]
                        refine wpAnyT_all (rs := [11]) (by kernel_rfl) (by simp) ?_
                        intro ix hix
                        simp only [List.mem_cons, List.not_mem_nil, or_false] at hix
                        subst hix
                        refine wpT_op (o := _) (by rfl) (fun K hK => ?_)
                        refine step_append_src (by rfl) _ _ _ (by rfl) wr.heap.size 9 i0 _ 1 16 Try.underlying22 hi0 hz0 hz1 hz2 rfl (by omega) v11 (0 + n + 1) ([] ++ strs (O.take (n)) ++ [.string (bt x)]) (by rfl) hm13 wr.heap.size _ _ _ (strs (O.drop (n))) (by rfl) (HBk.out _ b15) (strs_one _) (by unfold maxLen; omega) (by omega) b15.size ?_
                        intro v16 wq17 hm18 hr19
                        have b20 := b15.grown hr19.grown b15.size (fun g hg => (hm13.lt g hg).1)
                        refine hK _ _ (fun _ => trivial) ?_
                        clear hK K
                        try simp only [Act.put, List.setIfInBounds_toArray, List.set_cons_zero, List.set_cons_succ]
                        refine wpAnyT_all (rs := [12]) (by kernel_rfl) (by simp) ?_
                        intro ix hix
                        simp only [List.mem_cons, List.not_mem_nil, or_false] at hix
                        subst hix
                        refine wpT_op (o := _) (by rfl) (fun K hK => ?_)
                        try go_simp
                        refine hK _ _ (fun h => absurd h (by omega)) ?_
                        clear hK K
                        refine wpAnyT_done (by kernel_rfl) ?_ _
                        have HMz := Lib.hid hm18
                        have HBz := Lib.hid b20
                        clear hm18 b20
                        obtain ⟨Az, nz2, cz, ez, hnz, hsl⟩ := ins_sl HL.out (by omega) (by rw [Nat.sub_self]; exact HMz.out) HE.out
                        have hle2 : nz2 ≤ n9 + 1 := by rw [hnz, HN9.out, HL.out]; exact insL_len _ _
                        have HZ := Lib.hid (⟨hnz, hsl⟩ : nz2 = (insL O x).length ∧ Sl wq17 Az nz2 cz (insL O x))
                        clear hnz hsl HMz
                        subst ez
                        go_wp2
                        go_roundw
                        case rel => exact ⟨k + 1, _, dn ++ [x], Az, nz2, cz, congrArg Value.string HS2.out, rfl, by go_num, by omega, Lib.hid ⟨by rw [HF.out]; exact HZ.out.1, by omega, by rw [HF.out]; exact HZ.out.2, after HBB.out HBz.out, HW.out⟩⟩
                        case measure => simp only [intOf]; omega
                      · refine wpT_op (o := _) (by rfl) (fun K hK => ?_)
                        go_simp
                        have b21 := b1.alloc b1.size (.cells #[.string (bt x)] 9)
                        have hl22 : ((wr.drew.alloc (.cells #[] 9)).alloc (.cells #[.string (bt x)] 9)).cell? ⟨wr.heap.size + 1, 0, none⟩ = some (.string (bt x)) := World.cell?_alloc_at _ _ _ _ (by simp)
                        have m23 := Mid.alloc_ m2 (.cells #[.string (bt x)] 9)
                        refine hK _ _ (fun _ => trivial) ?_
                        clear hK K
                        try simp only [Act.put, List.setIfInBounds_toArray, List.set_cons_zero, List.set_cons_succ]
                        refine wpAnyT_all (rs := [4]) (by kernel_rfl) (by simp) ?_
                        intro ix hix
                        simp only [List.mem_cons, List.not_mem_nil, or_false] at hix
                        subst hix
                        refine wpT_op (o := _) (by rfl) (fun K hK => ?_)
                        refine step_append_src (by rfl) _ _ _ (by rfl) wr.heap.size 9 i0 _ 1 16 Try.underlying22 hi0 hz0 hz1 hz2 rfl (by omega) (.slice (some ⟨wr.heap.size, 0, none⟩) 0 0) (0) ([]) (by rfl) m23 wr.heap.size _ _ _ (strs (O.take (n))) (by rfl) (HA.out _ b21) (strs_one _) (by unfold maxLen; omega) (by omega) b21.size ?_
                        intro v24 wq25 hm26 hr27
                        have b28 := b21.grown hr27.grown b21.size (fun g hg => (m23.lt g hg).1)
                        have hl29 := ran_cell hr27 m23 hl22 (by simp [Value.ownBlock])
                        refine hK _ _ (fun _ => trivial) ?_
                        clear hK K
                        try simp only [Act.put, List.setIfInBounds_toArray, List.set_cons_zero, List.set_cons_succ]
                        refine wpAnyT_all (rs := [7]) (by kernel_rfl) (by simp) ?_
                        intro ix hix
                        simp only [List.mem_cons, List.not_mem_nil, or_false] at hix
                        subst hix
                        refine wpT_op (o := _) (by rfl) (fun K hK => ?_)
                        refine step_append_mid (by rfl) _ _ _ (by rfl) wr.heap.size 9 i0 _ 1 16 Try.underlying22 hi0 hz0 hz1 hz2 rfl (by omega) v24 (0 + n) ([] ++ strs (O.take (n))) (by rfl) hm26 ⟨wr.heap.size + 1, 0, none⟩ 1 1 [.string (bt x)] (by rfl) (by rfl) (news_one hl29) (by simp [Value.oneCell']) (by unfold maxLen; omega) (by omega) b28.size ?_
                        intro v30 wq31 hm32 hr33
                        have b34 := b28.grown hr33.grown b28.size (fun g hg => (hm26.lt g hg).1)
                        refine hK _ _ (fun _ => trivial) ?_
                        clear hK K
                        try simp only [Act.put, List.setIfInBounds_toArray, List.set_cons_zero, List.set_cons_succ]
                        refine wpAnyT_all (rs := [11]) (by kernel_rfl) (by simp) ?_
                        intro ix hix
                        simp only [List.mem_cons, List.not_mem_nil, or_false] at hix
                        subst hix
                        refine wpT_op (o := _) (by rfl) (fun K hK => ?_)
                        refine step_append_src (by rfl) _ _ _ (by rfl) wr.heap.size 9 i0 _ 1 16 Try.underlying22 hi0 hz0 hz1 hz2 rfl (by omega) v30 (0 + n + 1) ([] ++ strs (O.take (n)) ++ [.string (bt x)]) (by rfl) hm32 wr.heap.size _ _ _ (strs (O.drop (n))) (by rfl) (HBk.out _ b34) (strs_one _) (by unfold maxLen; omega) (by omega) b34.size ?_
                        intro v35 wq36 hm37 hr38
                        have b39 := b34.grown hr38.grown b34.size (fun g hg => (hm32.lt g hg).1)
                        refine hK _ _ (fun _ => trivial) ?_
                        clear hK K
                        try simp only [Act.put, List.setIfInBounds_toArray, List.set_cons_zero, List.set_cons_succ]
                        refine wpAnyT_all (rs := [12]) (by kernel_rfl) (by simp) ?_
                        intro ix hix
                        simp only [List.mem_cons, List.not_mem_nil, or_false] at hix
                        subst hix
                        refine wpT_op (o := _) (by rfl) (fun K hK => ?_)
                        try go_simp
                        refine hK _ _ (fun h => absurd h (by omega)) ?_
                        clear hK K
                        refine wpAnyT_done (by kernel_rfl) ?_ _
                        have HMz := Lib.hid hm37
                        have HBz := Lib.hid b39
                        clear hm37 b39
                        obtain ⟨Az, nz2, cz, ez, hnz, hsl⟩ := ins_sl HL.out (by omega) (by rw [Nat.sub_self]; exact HMz.out) HE.out
                        have hle2 : nz2 ≤ n9 + 1 := by rw [hnz, HN9.out, HL.out]; exact insL_len _ _
                        have HZ := Lib.hid (⟨hnz, hsl⟩ : nz2 = (insL O x).length ∧ Sl wq36 Az nz2 cz (insL O x))
                        clear hnz hsl HMz
                        subst ez
                        go_wp2
                        go_roundw
                        case rel => exact ⟨k + 1, _, dn ++ [x], Az, nz2, cz, congrArg Value.string HS2.out, rfl, by go_num, by omega, Lib.hid ⟨by rw [HF.out]; exact HZ.out.1, by omega, by rw [HF.out]; exact HZ.out.2, after HBB.out HBz.out, HW.out⟩⟩
                        case measure => simp only [intOf]; omega
                    · refine wpT_op (o := _) (by rfl) (fun K hK => ?_)
                      go_simp
                      have b40 := b0.alloc b0.size (.cells #[.string (bt x)] 9)
                      have hl41 : (wr.drew.alloc (.cells #[.string (bt x)] 9)).cell? ⟨wr.heap.size, 0, none⟩ = some (.string (bt x)) := World.cell?_alloc_at _ _ _ _ (by simp)
                      refine hK _ _ (fun _ => trivial) ?_
                      clear hK K
                      try simp only [Act.put, List.setIfInBounds_toArray, List.set_cons_zero, List.set_cons_succ]
                      refine wpAnyT_all (rs := [0]) (by kernel_rfl) (by simp) ?_
                      intro ix hix
                      simp only [List.mem_cons, List.not_mem_nil, or_false] at hix
                      subst hix
                      refine wpT_op (o := _) (by rfl) (fun K hK => ?_)
                      go_simp
                      have b42 := b40.alloc b40.size (.cells #[] 9)
                      have m43 : Mid ((wr.drew.alloc (.cells #[.string (bt x)] 9)).alloc (.cells #[] 9)) wr.heap.size 9 1 (.slice (some ⟨wr.heap.size + 1, 0, none⟩) 0 0) 0 [] := by
                        have h := Mid.empty (w := (wr.drew.alloc (.cells #[.string (bt x)] 9))) (base := wr.heap.size) (t := 9) b40.size
                        have e : (wr.drew.alloc (.cells #[.string (bt x)] 9)).heap.size = wr.heap.size + 1 := by simp
                        rw [e] at h; exact h
                      have hl44 : ((wr.drew.alloc (.cells #[.string (bt x)] 9)).alloc (.cells #[] 9)).cell? ⟨wr.heap.size, 0, none⟩ = some (.string (bt x)) := (World.cell?_alloc_lt _ _ _ (by simp)).trans hl41
                      refine hK _ _ (fun _ => trivial) ?_
                      clear hK K
                      try simp only [Act.put, List.setIfInBounds_toArray, List.set_cons_zero, List.set_cons_succ]
                      refine wpAnyT_all (rs := [4]) (by kernel_rfl) (by simp) ?_
                      intro ix hix
                      simp only [List.mem_cons, List.not_mem_nil, or_false] at hix
                      subst hix
                      refine wpT_op (o := _) (by rfl) (fun K hK => ?_)
                      refine step_append_src (by rfl) _ _ _ (by rfl) wr.heap.size 9 i0 _ 1 16 Try.underlying22 hi0 hz0 hz1 hz2 rfl (by omega) (.slice (some ⟨wr.heap.size + 1, 0, none⟩) 0 0) (0) ([]) (by rfl) m43 wr.heap.size _ _ _ (strs (O.take (n))) (by rfl) (HA.out _ b42) (strs_one _) (by unfold maxLen; omega) (by omega) b42.size ?_
                      intro v45 wq46 hm47 hr48
                      have b49 := b42.grown hr48.grown b42.size (fun g hg => (m43.lt g hg).1)
                      have hl50 := ran_cell hr48 m43 hl44 (by simp [Value.ownBlock])
                      refine hK _ _ (fun _ => trivial) ?_
                      clear hK K
                      try simp only [Act.put, List.setIfInBounds_toArray, List.set_cons_zero, List.set_cons_succ]
                      refine wpAnyT_all (rs := [7]) (by kernel_rfl) (by simp) ?_
                      intro ix hix
                      simp only [List.mem_cons, List.not_mem_nil, or_false] at hix
                      subst hix
                      refine wpT_op (o := _) (by rfl) (fun K hK => ?_)
                      refine step_append_mid (by rfl) _ _ _ (by rfl) wr.heap.size 9 i0 _ 1 16 Try.underlying22 hi0 hz0 hz1 hz2 rfl (by omega) v45 (0 + n) ([] ++ strs (O.take (n))) (by rfl) hm47 ⟨wr.heap.size, 0, none⟩ 1 1 [.string (bt x)] (by rfl) (by rfl) (news_one hl50) (by simp [Value.oneCell']) (by unfold maxLen; omega) (by omega) b49.size ?_
                      intro v51 wq52 hm53 hr54
                      have b55 := b49.grown hr54.grown b49.size (fun g hg => (hm47.lt g hg).1)
                      refine hK _ _ (fun _ => trivial) ?_
                      clear hK K
                      try simp only [Act.put, List.setIfInBounds_toArray, List.set_cons_zero, List.set_cons_succ]
                      refine wpAnyT_all (rs := [11]) (by kernel_rfl) (by simp) ?_
                      intro ix hix
                      simp only [List.mem_cons, List.not_mem_nil, or_false] at hix
                      subst hix
                      refine wpT_op (o := _) (by rfl) (fun K hK => ?_)
                      refine step_append_src (by rfl) _ _ _ (by rfl) wr.heap.size 9 i0 _ 1 16 Try.underlying22 hi0 hz0 hz1 hz2 rfl (by omega) v51 (0 + n + 1) ([] ++ strs (O.take (n)) ++ [.string (bt x)]) (by rfl) hm53 wr.heap.size _ _ _ (strs (O.drop (n))) (by rfl) (HBk.out _ b55) (strs_one _) (by unfold maxLen; omega) (by omega) b55.size ?_
                      intro v56 wq57 hm58 hr59
                      have b60 := b55.grown hr59.grown b55.size (fun g hg => (hm53.lt g hg).1)
                      refine hK _ _ (fun _ => trivial) ?_
                      clear hK K
                      try simp only [Act.put, List.setIfInBounds_toArray, List.set_cons_zero, List.set_cons_succ]
                      refine wpAnyT_all (rs := [12]) (by kernel_rfl) (by simp) ?_
                      intro ix hix
                      simp only [List.mem_cons, List.not_mem_nil, or_false] at hix
                      subst hix
                      refine wpT_op (o := _) (by rfl) (fun K hK => ?_)
                      try go_simp
                      refine hK _ _ (fun h => absurd h (by omega)) ?_
                      clear hK K
                      refine wpAnyT_done (by kernel_rfl) ?_ _
                      have HMz := Lib.hid hm58
                      have HBz := Lib.hid b60
                      clear hm58 b60
                      obtain ⟨Az, nz2, cz, ez, hnz, hsl⟩ := ins_sl HL.out (by omega) (by rw [Nat.sub_self]; exact HMz.out) HE.out
                      have hle2 : nz2 ≤ n9 + 1 := by rw [hnz, HN9.out, HL.out]; exact insL_len _ _
                      have HZ := Lib.hid (⟨hnz, hsl⟩ : nz2 = (insL O x).length ∧ Sl wq57 Az nz2 cz (insL O x))
                      clear hnz hsl HMz
                      subst ez
                      go_wp2
                      go_roundw
                      case rel => exact ⟨k + 1, _, dn ++ [x], Az, nz2, cz, congrArg Value.string HS2.out, rfl, by go_num, by omega, Lib.hid ⟨by rw [HF.out]; exact HZ.out.1, by omega, by rw [HF.out]; exact HZ.out.2, after HBB.out HBz.out, HW.out⟩⟩
                      case measure => simp only [intOf]; omega

      · have hszS : (bt S).size ≤ 241 := by rw [bt_size]; have := HI.out.2.2.2.2.2.2.1; omega
        have HT : Hid (toks (bt S).data.toList = foldI [] dn) := Lib.hid (by rw [bt_data, toks_fold, HI.out.2.2.2.2.2.1])
        have hn15 : n ≤ 15 := by have := HI.out.2.1; omega
        have HS := Lib.hid HI.out.2.2.1.2.2.2
        have HN := Lib.hid HI.out.1
        have HB := Lib.hid HI.out.2.2.2.1
        clear HI
        by_cases hA : k < nw
        · have hB : ¬ k < 15 := fun h => hlt ⟨hA, h⟩
          have hB2 : ¬ (k : Int) < 15 := by omega
          clear hlt
          go_wp2_with (first
            | (go_at_call 8; refine (terms_any _ _ (by omega)).mono ?_
               rintro e w2 ⟨v2, rfl, hm2, hb2⟩
               rw [HT.out, ← HN.out] at hm2
               obtain ⟨A2, c2, rfl⟩ := hm2.form
               have HM2 := Lib.hid hm2
               have HB2 := Lib.hid hb2
               clear hm2 hb2)
            | (go_at_call 10; refine (same_s _ A2 A n n c2 cc (foldI [] dn) (foldI [] dn) _ HM2.out.reads (HS.out.on HB2.out) (by omega) (by omega)).mono ?_
               rintro e w3 ⟨rfl, hb3⟩
               rw [eqB_self]
               have HB3 := Lib.hid (after (after HB.out HB2.out) hb3)
               clear hb3)
            | (go_at_call 13; refine (runs_any _).mono ?_
               rintro e w4 ⟨rfl, hb4⟩
               have HB4 := Lib.hid (after HB3.out hb4)
               clear hb4)
            | fail)
          go_ret
          exact ⟨rfl, HB4.out⟩
        · have hA2 : ¬ (k : Int) < nw := by omega
          clear hlt
          go_wp2_with (first
            | (go_at_call 8; refine (terms_any _ _ (by omega)).mono ?_
               rintro e w2 ⟨v2, rfl, hm2, hb2⟩
               rw [HT.out, ← HN.out] at hm2
               obtain ⟨A2, c2, rfl⟩ := hm2.form
               have HM2 := Lib.hid hm2
               have HB2 := Lib.hid hb2
               clear hm2 hb2)
            | (go_at_call 10; refine (same_s _ A2 A n n c2 cc (foldI [] dn) (foldI [] dn) _ HM2.out.reads (HS.out.on HB2.out) (by omega) (by omega)).mono ?_
               rintro e w3 ⟨rfl, hb3⟩
               rw [eqB_self]
               have HB3 := Lib.hid (after (after HB.out HB2.out) hb3)
               clear hb3)
            | (go_at_call 13; refine (runs_any _).mono ?_
               rintro e w4 ⟨rfl, hb4⟩
               have HB4 := Lib.hid (after HB3.out hb4)
               clear hb4)
            | fail)
          go_ret
          exact ⟨rfl, HB4.out⟩
  · have hd : (((letter c).toNat : Int) != 0) = true := by
      have : (letter c).toNat ≠ 0 := fun e => hc (UInt8.toNat_inj.1 e)
      simpa using this
    go_enter Try.func5, Try.ntmps5
    go_wp2_with (first
      | (go_at_call 11; refine (letter_any _ _).mono ?_; rintro e w' ⟨rfl, hw'⟩; rw [hw']; clear hw')
      | (go_at_call 13; refine (runs_any _).mono ?_
         rintro e w4 ⟨rfl, hb4⟩
         have HB4 := Lib.hid hb4
         clear hb4)
      | fail)
    go_ret
    exact ⟨rfl, HB4.out⟩
theorem words_arg (AW : Option Addr) (nw cw : Nat) (xs : List Int) (b : Int) (w : World) (hr : Reads w w.heap.size 1 AW nw (xs.map (Value.int .i64))) (hb : (Lit.int .u8 b).wf = true) :
    Calls Try.prog 5 #[.slice AW nw cw, .int .u8 b] w fun e w' => e = .returned (.bool true) ∧ Below w.heap.size w w' := by
  obtain ⟨n, rfl, hn⟩ : ∃ n : Nat, b = n ∧ n < 256 := by
    have h : (decide (IntKind.u8.min ≤ b) && decide (b ≤ IntKind.u8.max)) = true := hb
    rw [Bool.and_eq_true, decide_eq_true_eq, decide_eq_true_eq] at h
    have e1 : IntKind.u8.min = 0 := rfl
    have e2 : IntKind.u8.max = 255 := rfl
    rw [e1, e2] at h
    exact ⟨b.toNat, by omega, by omega⟩
  have e : n = (UInt8.ofNat n).toNat := by simp; omega
  rw [e]
  exact words_law AW nw cw xs _ w hr
end Go.Proofs.Ytoffibcplbfokaa
